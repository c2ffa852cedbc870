/-
  Matrices and vectors as cells; what comes in is read, and reads so again.
-/
import Derived.ChangeSame
import Derived.WideShapes
import Derived.OpenShut
import Derived.Below
import Derived.Deep.Strs
import Derived.Deep.MidRow
import Derived.WalkKit
import Derived.ProofKit
import Derived.StillTailTactics
import Derived.Deep.QuietTactic
namespace Go.Proofs.YtklddmmbbaaliaaDoor
set_option linter.unusedVariables false
set_option linter.unusedSimpArgs false
open Go.ChangeShapes Go.WideShapes Go.ChangeAt Go.RowKit

/-- n numbers of 16 bits -/
def TL (n : Nat) (f : Nat → Int) : List Value := (List.range n).map fun t => .int .u16 (f t)
theorem TL_len (n : Nat) (f : Nat → Int) : (TL n f).length = n := by simp [TL]
theorem TL_at (n : Nat) (f : Nat → Int) (t : Nat) (h : t < n) : (TL n f)[t]? = some (.int .u16 (f t)) := by simp [TL, h]
theorem TL_ext {n : Nat} {f g : Nat → Int} (h : ∀ t, t < n → f t = g t) : TL n f = TL n g := by
  unfold TL
  apply List.map_congr_left
  intro t ht
  rw [h t (List.mem_range.1 ht)]
def upd (f : Nat → Int) (s : Nat) (v : Int) : Nat → Int := fun t => if t = s then v else f t
theorem TL_set (n : Nat) (f : Nat → Int) (s : Nat) (v : Int) (h : s < n) : (TL n f).set s (.int .u16 v) = TL n (upd f s v) := by
  apply List.ext_getElem?
  intro i
  rw [List.getElem?_set]
  by_cases hi : i < n
  · rw [TL_at n (upd f s v) i hi]
    by_cases e : s = i
    · subst e; simp [TL_len, h, upd]
    · rw [if_neg e, TL_at n f i hi]
      have e' : ¬ i = s := fun x => e x.symm
      simp [upd, e']
  · have h1 : (TL n f)[i]? = none := List.getElem?_eq_none (by rw [TL_len]; omega)
    have h2 : (TL n (upd f s v))[i]? = none := List.getElem?_eq_none (by rw [TL_len]; omega)
    rw [h1, h2, if_neg (by omega)]
/-- a matrix's cells -/
def CL (r c : Int) (f : Nat → Int) : List Value := .int .i8 r :: .int .i8 c :: TL 36 f
theorem CL_len (r c : Int) (f : Nat → Int) : (CL r c f).length = 38 := by simp [CL, TL_len]
theorem CL_size (r c : Int) (f : Nat → Int) : (CL r c f).toArray.size = 38 := by simp [CL_len]
theorem CL_0 (r c : Int) (f : Nat → Int) : (CL r c f).toArray[0]? = some (.int .i8 r) := by simp [CL]
theorem CL_1 (r c : Int) (f : Nat → Int) : (CL r c f).toArray[1]? = some (.int .i8 c) := by simp [CL]
theorem CL_at (r c : Int) (f : Nat → Int) (t : Nat) (h : t < 36) : (CL r c f).toArray[2 + t]? = some (.int .u16 (f t)) := by
  rw [List.getElem?_toArray, Nat.add_comm]; exact TL_at 36 f t h
theorem CL_ext {r c : Int} {f g : Nat → Int} (h : ∀ t, t < 36 → f t = g t) : CL r c f = CL r c g := by unfold CL; rw [TL_ext h]
theorem CL_set (r c : Int) (f : Nat → Int) (s : Nat) (v : Int) (h : s < 36) : (CL r c f).toArray.setIfInBounds (2 + s) (.int .u16 v) = (CL r c (upd f s v)).toArray := by
  rw [List.setIfInBounds_toArray]
  congr 1
  rw [Nat.add_comm]
  show Value.int .i8 r :: Value.int .i8 c :: (TL 36 f).set s _ = _
  rw [TL_set 36 f s v h]; rfl
theorem TA_set (n : Nat) (f : Nat → Int) (s : Nat) (v : Int) (h : s < n) : (TL n f).toArray.setIfInBounds s (.int .u16 v) = (TL n (upd f s v)).toArray := by
  rw [List.setIfInBounds_toArray, TL_set n f s v h]
abbrev MV (r c : Int) (f : Nat → Int) : Value := .agg (CL r c f).toArray
abbrev VV (f : Nat → Int) : Value := .agg (TL 6 f).toArray
/-- a matrix lies in a block -/
def MB (w : World) (g : Nat) (t : TypeId) (r c : Int) (f : Nat → Int) : Prop := w.heap[g]? = some (.cells (CL r c f).toArray t (0, 0))
/-- a row of numbers lies in a block -/
def RB (w : World) (g : Nat) (t : TypeId) (n : Nat) (f : Nat → Int) : Prop := w.heap[g]? = some (.cells (TL n f).toArray t (0, 0))
section
variable {w : World} {g n : Nat} {t : TypeId} {r c : Int} {f : Nat → Int}
theorem MB.rows (h : MB w g t r c f) : w.cell? ⟨g, 0, none⟩ = some (.int .i8 r) := (cell_of_row _ _ _ _ _ _ h).trans (CL_0 r c f)
theorem MB.cols (h : MB w g t r c f) : w.cell? ⟨g, 1, none⟩ = some (.int .i8 c) := (cell_of_row _ _ _ _ _ _ h).trans (CL_1 r c f)
theorem MB.cell (h : MB w g t r c f) (s : Nat) (hs : s < 36) : w.cell? ⟨g, 2 + s, none⟩ = some (.int .u16 (f s)) := (cell_of_row _ _ _ _ _ _ h).trans (CL_at r c f s hs)
theorem MB.free (h : MB w g t r c f) (o : Nat) : w.frozen? ⟨g, o, none⟩ = false := by
  unfold World.frozen?; rw [h]; simp
theorem MB.put (h : MB w g t r c f) (s : Nat) (hs : s < 36) (v : Int) : MB (w.setCell ⟨g, 2 + s, none⟩ (.int .u16 v)) g t r c (upd f s v) := by
  unfold MB; rw [heap_setCell_same w g (2 + s) _ _ _ h, CL_set r c f s v hs]
theorem MB.putR (h : MB w g t r c f) (v : Int) : MB (w.setCell ⟨g, 0, none⟩ (.int .i8 v)) g t v c f := by
  unfold MB; rw [heap_setCell_same w g 0 _ _ _ h]; rfl
theorem MB.putC (h : MB w g t r c f) (v : Int) : MB (w.setCell ⟨g, 1, none⟩ (.int .i8 v)) g t r v f := by
  unfold MB; rw [heap_setCell_same w g 1 _ _ _ h]; rfl
theorem MB.other (h : MB w g t r c f) {b o : Nat} (hb : b ≠ g) (v : Value) : MB (w.setCell ⟨b, o, none⟩ v) g t r c f := by
  unfold MB; rw [heap_setCell_other _ _ _ _ (by simpa using hb.symm)]; exact h
theorem MB.ext (h : MB w g t r c f) {f' : Nat → Int} (e : ∀ s, s < 36 → f s = f' s) : MB w g t r c f' := by unfold MB; rw [← CL_ext e]; exact h
theorem MB.lt (h : MB w g t r c f) : g < w.heap.size := (Array.getElem?_eq_some_iff.1 h).1
theorem MB.below (h : MB w g t r c f) {B : Nat} {w' : World} (hb : Below B w w') (hg : g < B) : MB w' g t r c f := (hb.block g hg).trans h
theorem MB.drewN (h : MB w g t r c f) (m : Nat) : MB (w.drewN m) g t r c f := h
theorem MB.alloc (h : MB w g t r c f) (o : Obj) : MB (w.alloc o) g t r c f := by unfold MB; rw [heap_alloc_old _ _ h.lt]; exact h
theorem MB.range (h : MB w g t r c f) : w.rangeAt g 0 (CL r c f) := fun j v hv => by
  rw [Nat.zero_add, cell_of_row _ _ _ _ _ _ h, List.getElem?_toArray]; exact hv
theorem MB.sub (h : MB w g t r c f) (i : Nat) (hi : i < 6) : w.rangeAt g (2 + 6 * i) (TL 6 fun k => f (6 * i + k)) := fun j v hv => by
  have hj : j < 6 := by have := (List.getElem?_eq_some_iff.1 hv).1; rw [TL_len] at this; exact this
  rw [TL_at _ _ _ hj] at hv
  rw [Nat.add_assoc, h.cell (6 * i + j) (by omega)]; exact hv
theorem MB.grid (h : MB w g t r c f) : w.rangeAt g 2 (TL 36 f) := fun j v hv => by
  have hj : j < 36 := by have := (List.getElem?_eq_some_iff.1 hv).1; rw [TL_len] at this; exact this
  rw [TL_at _ _ _ hj] at hv
  rw [h.cell j hj]; exact hv
theorem RB.cell (h : RB w g t n f) (s : Nat) (hs : s < n) : w.cell? ⟨g, s, none⟩ = some (.int .u16 (f s)) := (cell_of_row _ _ _ _ _ _ h).trans (by rw [List.getElem?_toArray]; exact TL_at n f s hs)
theorem RB.free (h : RB w g t n f) (o : Nat) : w.frozen? ⟨g, o, none⟩ = false := by
  unfold World.frozen?; rw [h]; simp
theorem RB.put (h : RB w g t n f) (s : Nat) (hs : s < n) (v : Int) : RB (w.setCell ⟨g, s, none⟩ (.int .u16 v)) g t n (upd f s v) := by
  unfold RB; rw [heap_setCell_same w g s _ _ _ h, TA_set n f s v hs]
theorem RB.other (h : RB w g t n f) {b o : Nat} (hb : b ≠ g) (v : Value) : RB (w.setCell ⟨b, o, none⟩ v) g t n f := by
  unfold RB; rw [heap_setCell_other _ _ _ _ (by simpa using hb.symm)]; exact h
theorem RB.ext (h : RB w g t n f) {f' : Nat → Int} (e : ∀ s, s < n → f s = f' s) : RB w g t n f' := by unfold RB; rw [← TL_ext e]; exact h
theorem RB.lt (h : RB w g t n f) : g < w.heap.size := (Array.getElem?_eq_some_iff.1 h).1
theorem RB.below (h : RB w g t n f) {B : Nat} {w' : World} (hb : Below B w w') (hg : g < B) : RB w' g t n f := (hb.block g hg).trans h
theorem RB.drewN (h : RB w g t n f) (m : Nat) : RB (w.drewN m) g t n f := h
theorem RB.alloc (h : RB w g t n f) (o : Obj) : RB (w.alloc o) g t n f := by unfold RB; rw [heap_alloc_old _ _ h.lt]; exact h
theorem RB.range (h : RB w g t n f) : w.rangeAt g 0 (TL n f) := fun j v hv => by
  rw [Nat.zero_add, cell_of_row _ _ _ _ _ _ h, List.getElem?_toArray]; exact hv
end
/-! many cells at once -/
theorem heap_setCells_other (g : Nat) : ∀ (vs : List Value) (o : Nat) (w : World) (b : Nat), b ≠ g → (w.setCells g o vs).heap[b]? = w.heap[b]?
  | [], _, _, _, _ => rfl
  | v :: r, o, w, b, h => by
    rw [World.setCells, heap_setCells_other g r (o + 1) _ b h, heap_setCell_other _ _ _ _ (by simpa using h)]
theorem Below.setCells {B g : Nat} {a : World} (hg : B ≤ g) : ∀ (vs : List Value) (o : Nat) (w : World), Below B a w → Below B a (w.setCells g o vs)
  | [], _, _, h => h
  | v :: r, o, w, h => by
    rw [World.setCells]; exact Below.setCells hg r (o + 1) _ (h.setCell (p := ⟨g, o, none⟩) hg v)
theorem Below.setRow {B g : Nat} {a w : World} (h : Below B a w) (hg : B ≤ g) (cs : Array Value) : Below B a (w.setRow g cs) :=
  h.trans ⟨rfl, rfl, rfl, by simp, fun k hk => setRow_other _ _ _ _ (by omega)⟩
theorem MB.setRow {w : World} {g : Nat} {t : TypeId} {r c : Int} {f : Nat → Int} (h : MB w g t r c f) {r' c' : Int} (f' : Nat → Int) : MB (w.setRow g (CL r' c' f').toArray) g t r' c' f' := setRow_heap _ _ _ _ _ _ h
theorem MB.setRow_other {w : World} {g b : Nat} {t : TypeId} {r c : Int} {f : Nat → Int} (h : MB w g t r c f) (hb : b ≠ g) (cs : Array Value) : MB (w.setRow b cs) g t r c f := (Go.setRow_other _ _ _ _ (Ne.symm hb)).trans h
theorem RB.setRow {w : World} {g n : Nat} {t : TypeId} {f : Nat → Int} (h : RB w g t n f) (f' : Nat → Int) : RB (w.setRow g (TL n f').toArray) g t n f' := setRow_heap _ _ _ _ _ _ h
theorem RB.setRow_other {w : World} {g b n : Nat} {t : TypeId} {f : Nat → Int} (h : RB w g t n f) (hb : b ≠ g) (cs : Array Value) : RB (w.setRow b cs) g t n f := (Go.setRow_other _ _ _ _ (Ne.symm hb)).trans h
theorem MB.setCells_other {w : World} {g b o : Nat} {t : TypeId} {r c : Int} {f : Nat → Int} (h : MB w g t r c f) (hb : b ≠ g) (vs : List Value) : MB (w.setCells b o vs) g t r c f := (heap_setCells_other _ _ _ _ _ (Ne.symm hb)).trans h
theorem RB.setCells_other {w : World} {g b o n : Nat} {t : TypeId} {f : Nat → Int} (h : RB w g t n f) (hb : b ≠ g) (vs : List Value) : RB (w.setCells b o vs) g t n f := (heap_setCells_other _ _ _ _ _ (Ne.symm hb)).trans h
/-- numbers put into a row from o on -/
def puts (f : Nat → Int) (o n : Nat) (h : Nat → Int) : Nat → Int := fun s => if o ≤ s ∧ s < o + n then h (s - o) else f s
theorem TL_cons (n : Nat) (h : Nat → Int) : TL (n + 1) h = .int .u16 (h 0) :: TL n (fun k => h (k + 1)) := by
  unfold TL
  rw [List.range_succ_eq_map]
  simp [Function.comp_def]
theorem puts_cons (f : Nat → Int) (o n : Nat) (h : Nat → Int) : puts (upd f o (h 0)) (o + 1) n (fun k => h (k + 1)) = puts f o (n + 1) h := by
  funext s
  unfold puts upd
  by_cases h1 : s = o
  · subst h1
    rw [if_neg (by omega), if_pos rfl, if_pos (by omega), Nat.sub_self]
  · by_cases h2 : o + 1 ≤ s ∧ s < o + 1 + n
    · rw [if_pos h2, if_pos (by omega)]; show h (s - (o + 1) + 1) = _; rw [show s - (o + 1) + 1 = s - o from by omega]
    · rw [if_neg h2, if_neg h1, if_neg (by omega)]
theorem MB.puts {g : Nat} {t : TypeId} {r c : Int} : ∀ (n o : Nat) (h' f : Nat → Int) (w : World), MB w g t r c f → o + n ≤ 36 → MB (w.setCells g (2 + o) (TL n h')) g t r c (puts f o n h')
  | 0, o, h', f, w, h, _ => by
    have e : Go.Proofs.YtklddmmbbaaliaaDoor.puts f o 0 h' = f := by funext s; unfold Go.Proofs.YtklddmmbbaaliaaDoor.puts; rw [if_neg (by omega)]
    rw [e]; exact h
  | n + 1, o, h', f, w, h, hn => by
    rw [TL_cons, World.setCells, ← puts_cons, Nat.add_assoc]
    exact MB.puts n (o + 1) _ _ _ (h.put o (by omega) _) (by omega)
theorem RB.puts {g m : Nat} {t : TypeId} : ∀ (n o : Nat) (h' f : Nat → Int) (w : World), RB w g t m f → o + n ≤ m → RB (w.setCells g o (TL n h')) g t m (puts f o n h')
  | 0, o, h', f, w, h, _ => by
    have e : Go.Proofs.YtklddmmbbaaliaaDoor.puts f o 0 h' = f := by funext s; unfold Go.Proofs.YtklddmmbbaaliaaDoor.puts; rw [if_neg (by omega)]
    rw [e]; exact h
  | n + 1, o, h', f, w, h, hn => by
    rw [TL_cons, World.setCells, ← puts_cons]
    exact RB.puts n (o + 1) _ _ _ (h.put o (by omega) _) (by omega)
theorem MB.there {w : World} {g : Nat} {t : TypeId} {r c : Int} {f : Nat → Int} (h : MB w g t r c f) (o n : Nat) (hn : o + n ≤ 38) : w.there g o n := fun j hj => by
  refine ⟨?_, h.free _⟩
  rw [cell_of_row _ _ _ _ _ _ h, Array.getElem?_eq_getElem (by rw [CL_size]; omega)]; rfl
theorem RB.there {w : World} {g m : Nat} {t : TypeId} {f : Nat → Int} (h : RB w g t m f) (o n : Nat) (hn : o + n ≤ m) : w.there g o n := fun j hj => by
  refine ⟨?_, h.free _⟩
  rw [cell_of_row _ _ _ _ _ _ h, Array.getElem?_eq_getElem (by simp [TL_len]; omega)]; rfl
theorem RB.sub {w : World} {g m : Nat} {t : TypeId} {f : Nat → Int} (h : RB w g t m f) (o n : Nat) (hn : o + n ≤ m) : w.rangeAt g o (TL n fun k => f (o + k)) := fun j v hv => by
  have hj : j < n := by have := (List.getElem?_eq_some_iff.1 hv).1; rw [TL_len] at this; exact this
  rw [TL_at _ _ _ hj] at hv
  rw [h.cell (o + j) (by omega)]; exact hv
theorem TL_one (n : Nat) (f : Nat → Int) : (TL n f).toArray.all (·.oneCell') = true := all_oneCell_toArray (fun v hv => by
  simp [TL] at hv; obtain ⟨_, _, rfl⟩ := hv; rfl)
theorem CL_one (r c : Int) (f : Nat → Int) : (CL r c f).toArray.all (·.oneCell') = true := all_oneCell_toArray (fun v hv => by
  unfold CL at hv
  rcases List.mem_cons.1 hv with rfl | hv
  · rfl
  rcases List.mem_cons.1 hv with rfl | hv
  · rfl
  simp [TL] at hv; obtain ⟨_, _, rfl⟩ := hv; rfl)
theorem zero6 : #[Value.int .u16 0, .int .u16 0, .int .u16 0, .int .u16 0, .int .u16 0, .int .u16 0] = (TL 6 fun _ => 0).toArray := rfl
theorem zero36 : #[Value.int .u16 0, .int .u16 0, .int .u16 0, .int .u16 0, .int .u16 0, .int .u16 0, .int .u16 0, .int .u16 0, .int .u16 0, .int .u16 0, .int .u16 0, .int .u16 0, .int .u16 0, .int .u16 0, .int .u16 0, .int .u16 0, .int .u16 0, .int .u16 0, .int .u16 0, .int .u16 0, .int .u16 0, .int .u16 0, .int .u16 0, .int .u16 0, .int .u16 0, .int .u16 0, .int .u16 0, .int .u16 0, .int .u16 0, .int .u16 0, .int .u16 0, .int .u16 0, .int .u16 0, .int .u16 0, .int .u16 0, .int .u16 0] = (TL 36 fun _ => 0).toArray := rfl
theorem zero38 : #[Value.int .i8 0, .int .i8 0, .int .u16 0, .int .u16 0, .int .u16 0, .int .u16 0, .int .u16 0, .int .u16 0, .int .u16 0, .int .u16 0, .int .u16 0, .int .u16 0, .int .u16 0, .int .u16 0, .int .u16 0, .int .u16 0, .int .u16 0, .int .u16 0, .int .u16 0, .int .u16 0, .int .u16 0, .int .u16 0, .int .u16 0, .int .u16 0, .int .u16 0, .int .u16 0, .int .u16 0, .int .u16 0, .int .u16 0, .int .u16 0, .int .u16 0, .int .u16 0, .int .u16 0, .int .u16 0, .int .u16 0, .int .u16 0, .int .u16 0, .int .u16 0] = (CL 0 0 fun _ => 0).toArray := rfl
/-- blocks that have just been made -/
theorem new1 (w : World) (A : Obj) : (w.alloc A).heap[w.heap.size]? = some A ∧ Below w.heap.size w (w.alloc A) ∧ (w.alloc A).heap.size = w.heap.size + 1 := ⟨heap_alloc_new _ _, (Below.refl _ w).alloc (Nat.le_refl _) A, World.size_alloc _ _⟩
theorem new2 (w : World) (A B : Obj) : ((w.alloc A).alloc B).heap[w.heap.size]? = some A ∧ ((w.alloc A).alloc B).heap[w.heap.size + 1]? = some B ∧ Below w.heap.size w ((w.alloc A).alloc B) ∧ ((w.alloc A).alloc B).heap.size = w.heap.size + 1 + 1 :=
  ⟨heap_alloc2_old _ _ _, heap_alloc2_new _ _ _, ((Below.refl _ w).alloc (Nat.le_refl _) A).alloc (by rw [World.size_alloc]; omega) B, by rw [World.size_alloc, World.size_alloc]⟩
theorem new3 (w : World) (A B C : Obj) : (((w.alloc A).alloc B).alloc C).heap[w.heap.size]? = some A ∧ (((w.alloc A).alloc B).alloc C).heap[w.heap.size + 1]? = some B ∧ (((w.alloc A).alloc B).alloc C).heap[w.heap.size + 1 + 1]? = some C ∧ Below w.heap.size w (((w.alloc A).alloc B).alloc C) ∧ (((w.alloc A).alloc B).alloc C).heap.size = w.heap.size + 1 + 1 + 1 := by
  obtain ⟨h1, h2, h3, h4⟩ := new2 w A B
  refine ⟨?_, ?_, ?_, h3.alloc (by omega) C, by rw [World.size_alloc, h4]⟩
  · rw [heap_alloc_old _ _ (by omega)]; exact h1
  · rw [heap_alloc_old _ _ (by omega)]; exact h2
  · rw [← h4]; exact heap_alloc_new _ _
theorem new4 (w : World) (A B C D : Obj) : ((((w.alloc A).alloc B).alloc C).alloc D).heap[w.heap.size]? = some A ∧ ((((w.alloc A).alloc B).alloc C).alloc D).heap[w.heap.size + 1]? = some B ∧ ((((w.alloc A).alloc B).alloc C).alloc D).heap[w.heap.size + 1 + 1]? = some C ∧ ((((w.alloc A).alloc B).alloc C).alloc D).heap[w.heap.size + 1 + 1 + 1]? = some D ∧ Below w.heap.size w ((((w.alloc A).alloc B).alloc C).alloc D) := by
  obtain ⟨h1, h2, h3, h4, h5⟩ := new3 w A B C
  refine ⟨?_, ?_, ?_, ?_, h4.alloc (by omega) D⟩
  · rw [heap_alloc_old _ _ (by omega)]; exact h1
  · rw [heap_alloc_old _ _ (by omega)]; exact h2
  · rw [heap_alloc_old _ _ (by omega)]; exact h3
  · rw [← h5]; exact heap_alloc_new _ _
/-- bounds of a matrix that comes in -/
def MW (r c : Int) (f : Nat → Int) : Prop := -128 ≤ r ∧ r < 128 ∧ -128 ≤ c ∧ c < 128 ∧ ∀ t, 0 ≤ f t ∧ f t < 65536
def VW (f : Nat → Int) : Prop := ∀ t, 0 ≤ f t ∧ f t < 65536

/-- a load of many cells, in a region that draws its order -/
theorem still_load_mid {P : Program} {ops : Array Oper} {w : World} {rest : List Oper} {o : Oper} {a : Act} {Q : Act → Prop} (hgd : o.guard = none) (ty : TypeId) (x : Operand) (ho : o.op = .load ty x)
    (b off : Nat) (hx : a.eval x = .pointer (some ⟨b, off, none⟩)) (cs : List Value) (d : TypeDesc) (hc : w.rangeAt b off cs) (hu : P.underlying ty = some d) (hd : d.isRow = true) (hi : (P.info? ty).map (·.size) = some cs.length)
    (h : wpStill P ops w Q rest (a.put o.dst (.agg cs.toArray))) : wpStill P ops w Q (o :: rest) a := by
  refine wpStill_step (fun K hK => ?_)
  rw [if_pos (by simp [Region.wanted, hgd])]
  unfold Oper.still execOp
  simp only [ho, hx, Instr.loadAt, Instr.sureAddr, Sem.run_bind, Sem.run_pure, Result.andThen_ok, run_loadVar_mid w b off ty cs d hc hu hd hi]
  exact ⟨rfl, hK _ h⟩

/-! plain types: read the same in all worlds -/
inductive Plain (P : Program) : TypeId → Prop
  | int {t k} (h : P.underlying t = some (.int k)) : Plain P t
  | arr {t n e} (h : P.underlying t = some (.array n e)) (he : Plain P e) : Plain P t
  | str {t fs} (h : P.underlying t = some (.struct fs)) (hf : ∀ f ∈ fs.toList, Plain P f.type) : Plain P t
section
variable {H : Type} {enc : TypeId × Value → H} {P : Program} {w : World} {base : Nat} {spare : Nat → Bool} {held : Bool}
theorem trod_array {t e : TypeId} {n fuel : Nat} {cs : List Value} {x : DataW H × List MemPlace} (ht : P.underlying t = some (.array n e)) (h : DataW.trod enc P w base spare held fuel t cs = some x) :
    ∃ xs m, fuel = m + 1 ∧ x = (.agg (xs.map (·.1)), xs.flatMap (·.2)) ∧ cs.length = P.cellsOf t ∧ ((List.range n).mapM fun i => DataW.trod enc P w base spare held m e ((cs.drop (i * P.cellsOf e)).take (P.cellsOf e))) = some xs := by
  cases fuel with
  | zero => simp [DataW.trod] at h
  | succ m =>
    unfold DataW.trod at h
    rw [ht] at h
    split at h <;> simp_all
    obtain ⟨hl, xs, hp, hd⟩ := h
    exact ⟨xs, hd.symm, hp⟩
theorem trod_struct' {t : TypeId} {fs : Array Field} {fuel : Nat} {cs : List Value} {x : DataW H × List MemPlace} (ht : P.underlying t = some (.struct fs)) (h : DataW.trod enc P w base spare held fuel t cs = some x) :
    ∃ xs m, fuel = m + 1 ∧ x = (.agg (xs.map (·.1)), xs.flatMap (·.2)) ∧ cs.length = P.cellsOf t ∧ (fs.toList.mapM fun f => DataW.trod enc P w base spare held m f.type ((cs.drop f.offset).take (P.cellsOf f.type))) = some xs := by
  cases fuel with
  | zero => simp [DataW.trod] at h
  | succ m =>
    unfold DataW.trod at h
    rw [ht] at h
    split at h <;> simp_all
    obtain ⟨hl, xs, hp, hd⟩ := h
    exact ⟨xs, hd.symm, hp⟩
theorem trod_array_mk {t e : TypeId} {n m : Nat} {cs : List Value} {xs : List (DataW H × List MemPlace)} (ht : P.underlying t = some (.array n e)) (hl : cs.length = P.cellsOf t)
    (hp : ((List.range n).mapM fun i => DataW.trod enc P w base spare held m e ((cs.drop (i * P.cellsOf e)).take (P.cellsOf e))) = some xs) :
    DataW.trod enc P w base spare held (m + 1) t cs = some (.agg (xs.map (·.1)), xs.flatMap (·.2)) := by
  unfold DataW.trod
  rw [ht]
  split <;> simp_all
theorem mapM_same {α β : Type} {f g : α → Option (β × List MemPlace)} : ∀ {l : List α} {xs}, l.mapM f = some xs → (∀ a ∈ l, ∀ y, f a = some y → g a = some y ∧ y.2 = []) → l.mapM g = some xs ∧ xs.flatMap (·.2) = []
  | [], xs, h, _ => by simp at h; subst h; simp
  | a :: l, xs, h, hg => by
    simp only [List.mapM_cons, Option.pure_def, Option.bind_eq_bind, Option.bind_eq_some_iff, Option.some.injEq] at h
    obtain ⟨y, hy, ys, hys, rfl⟩ := h
    obtain ⟨h1, h2⟩ := hg a (by simp) y hy
    obtain ⟨h3, h4⟩ := mapM_same hys (fun b hb => hg b (by simp [hb]))
    exact ⟨by simp [List.mapM_cons, h1, h3], by simp [h2, h4]⟩
theorem trod_plain {t : TypeId} (hp : Plain P t) : ∀ (fuel : Nat) (cs : List Value) (x : DataW H × List MemPlace), DataW.trod enc P w base spare held fuel t cs = some x →
    ∀ (w' : World) (b' : Nat) (sp : Nat → Bool) (hd : Bool), DataW.trod enc P w' b' sp hd fuel t cs = some x ∧ x.2 = [] := by
  induction hp with
  | int h =>
    intro fuel cs x hx w' b' sp hd
    cases fuel with
    | zero => simp [DataW.trod] at hx
    | succ m =>
      obtain ⟨n, rfl, rfl, hw⟩ := DataW.trod_int h hx
      exact ⟨trod_int_mk m h hw, rfl⟩
  | arr h _ ih =>
    intro fuel cs x hx w' b' sp hd
    obtain ⟨xs, m, rfl, rfl, hl, hm⟩ := trod_array h hx
    obtain ⟨h1, h2⟩ := mapM_same hm (fun i _ y hy => ih m _ y hy w' b' sp hd)
    exact ⟨trod_array_mk h hl h1, h2⟩
  | str h _ ih =>
    intro fuel cs x hx w' b' sp hd
    obtain ⟨xs, m, rfl, rfl, hl, hm⟩ := trod_struct' h hx
    obtain ⟨h1, h2⟩ := mapM_same hm (fun f hf y hy => ih f hf m _ y hy w' b' sp hd)
    exact ⟨trod_struct_mk h hl h1, h2⟩
theorem mapM_each {α β : Type} {f : α → Option β} : ∀ {l : List α} {xs}, l.mapM f = some xs → ∀ a ∈ l, ∃ y, f a = some y
  | [], _, _, _, h => by simp at h
  | a :: l, xs, h, b, hb => by
    simp only [List.mapM_cons, Option.pure_def, Option.bind_eq_bind, Option.bind_eq_some_iff, Option.some.injEq] at h
    obtain ⟨y, hy, ys, hys, rfl⟩ := h
    rcases List.mem_cons.1 hb with rfl | hb
    · exact ⟨y, hy⟩
    · exact mapM_each hys b hb
/-- each cell of an array of integers -/
theorem ints_of_array {t e : TypeId} {k : IntKind} {n fuel : Nat} {cs : List Value} {x : DataW H × List MemPlace} (ht : P.underlying t = some (.array n e)) (he : P.underlying e = some (.int k)) (hce : P.cellsOf e = 1) (hct : P.cellsOf t = n)
    (h : DataW.trod enc P w base spare held fuel t cs = some x) : cs.length = n ∧ ∀ i, i < n → ∃ z, cs[i]? = some (.int k z) ∧ (Lit.int k z).wf = true := by
  obtain ⟨xs, m, rfl, rfl, hl, hm⟩ := trod_array ht h
  refine ⟨hl.trans hct, fun i hi => ?_⟩
  obtain ⟨y, hy⟩ := mapM_each hm i (List.mem_range.2 hi)
  obtain ⟨z, h1, _, h2⟩ := DataW.trod_int he hy
  refine ⟨z, ?_, h2⟩
  rw [hce, Nat.mul_one] at h1
  have h3 := congrArg (·[0]?) h1
  simpa using h3
/-- .. of an array of arrays -/
theorem ints_of_grid {t r e : TypeId} {k : IntKind} {a n fuel : Nat} {cs : List Value} {x : DataW H × List MemPlace} (ht : P.underlying t = some (.array a r)) (hr : P.underlying r = some (.array n e)) (he : P.underlying e = some (.int k)) (hce : P.cellsOf e = 1) (hcr : P.cellsOf r = n) (hct : P.cellsOf t = a * n)
    (h : DataW.trod enc P w base spare held fuel t cs = some x) : cs.length = a * n ∧ ∀ i, i < a * n → ∃ z, cs[i]? = some (.int k z) ∧ (Lit.int k z).wf = true := by
  obtain ⟨xs, m, rfl, rfl, hl, hm⟩ := trod_array ht h
  refine ⟨hl.trans hct, fun i hi => ?_⟩
  have hn : 0 < n := by
    rcases Nat.eq_zero_or_pos n with rfl | h0
    · simp at hi
    · exact h0
  have hd : i / n < a := (Nat.div_lt_iff_lt_mul hn).2 hi
  obtain ⟨y, hy⟩ := mapM_each hm (i / n) (List.mem_range.2 hd)
  rw [hcr] at hy
  obtain ⟨_, h2⟩ := ints_of_array hr he hce hcr hy
  obtain ⟨z, h3, h4⟩ := h2 (i % n) (Nat.mod_lt _ hn)
  refine ⟨z, ?_, h4⟩
  rw [List.getElem?_take, if_pos (Nat.mod_lt _ hn), List.getElem?_drop, Nat.mul_comm, Nat.div_add_mod] at h3
  exact h3
def numAt (cs : List Value) (o t : Nat) : Int := match cs[o + t]? with | some (.int _ z) => z | _ => 0
theorem tl_of {cs : List Value} {o n : Nat} (hl : cs.length = o + n) (h : ∀ i, i < n → ∃ z, cs[o + i]? = some (.int .u16 z) ∧ (Lit.int .u16 z).wf = true) :
    cs.drop o = TL n (numAt cs o) ∧ VW (numAt cs o) := by
  refine ⟨?_, ?_⟩
  · apply List.ext_getElem?
    intro i
    rw [List.getElem?_drop]
    by_cases hi : i < n
    · obtain ⟨z, h1, _⟩ := h i hi
      rw [TL_at n _ i hi, h1]
      simp [numAt, h1]
    · rw [List.getElem?_eq_none (by omega), List.getElem?_eq_none (by rw [TL_len]; omega)]
  · intro i
    by_cases hi : i < n
    · obtain ⟨z, h1, h2⟩ := h i hi
      have : numAt cs o i = z := by simp [numAt, h1]
      rw [this]
      have := bounds_u16 h2; omega
    · have : numAt cs o i = 0 := by unfold numAt; rw [List.getElem?_eq_none (by omega)]
      rw [this]; omega
/-- a vector that comes in -/
theorem open_vec {r : Reach} {b0 : Nat} {t e : TypeId} {v : Value} {d : DataW H} {p : List MemPlace} (ht : P.underlying t = some (.array 6 e)) (he : P.underlying e = some (.int .u16)) (hce : P.cellsOf e = 1) (hct : P.cellsOf t = 6)
    (hv : Value.okWide P w r b0 t v) (h : DataW.Trod enc P w base spare held t v d p) :
    ∃ f, v = VV f ∧ VW f ∧ p = [] ∧ ∀ (w' : World) (b' : Nat) (sp : Nat → Bool) (hd : Bool), DataW.Trod enc P w' b' sp hd t v d [] := by
  obtain ⟨fuel, hf⟩ := h
  obtain ⟨hl, hz⟩ := ints_of_array ht he hce hct hf
  have hp := fun w' b' sp hd => trod_plain (Plain.arr ht (.int he)) fuel _ _ hf w' b' sp hd
  have hq : p = [] := (hp w base spare held).2
  subst hq
  have hagg : ∃ cs, v = .agg cs := by
    cases v <;> simp [Value.okWide, ht, Cell.okWide, Cell.ok] at hv ⊢
  obtain ⟨cs, rfl⟩ := hagg
  have e := tl_of (cs := cs.toList) (o := 0) (n := 6) (by simpa [Value.cells] using hl) (fun i hi => by rw [Nat.zero_add]; exact hz i hi)
  refine ⟨numAt cs.toList 0, ?_, e.2, rfl, fun w' b' sp hd => ⟨fuel, (hp w' b' sp hd).1⟩⟩
  have e1 := e.1
  rw [List.drop_zero] at e1
  show Value.agg cs = Value.agg (TL 6 (numAt cs.toList 0)).toArray
  rw [← e1]
theorem i8_wf {z : Int} (h : (Lit.int .i8 z).wf = true) : -128 ≤ z ∧ z < 128 := by
  have := bounds_i8 h; omega
/-- a matrix that comes in -/
theorem open_mat {r : Reach} {b0 : Nat} {t ti tg tr e : TypeId} {f0 f1 f2 : Field} {v : Value} {d : DataW H} {p : List MemPlace} (ht : P.underlying t = some (.struct #[f0, f1, f2])) (hct : P.cellsOf t = 38)
    (o0 : f0.offset = 0 ∧ f0.type = ti) (o1 : f1.offset = 1 ∧ f1.type = ti) (o2 : f2.offset = 2 ∧ f2.type = tg) (hti : P.underlying ti = some (.int .i8)) (hci : P.cellsOf ti = 1) (hg : P.underlying tg = some (.array 6 tr)) (hcg : P.cellsOf tg = 36)
    (hr : P.underlying tr = some (.array 6 e)) (he : P.underlying e = some (.int .u16)) (hce : P.cellsOf e = 1) (hcr : P.cellsOf tr = 6)
    (hv : Value.okWide P w r b0 t v) (h : DataW.Trod enc P w base spare held t v d p) :
    ∃ rr cc f, v = MV rr cc f ∧ MW rr cc f ∧ p = [] ∧ ∀ (w' : World) (b' : Nat) (sp : Nat → Bool) (hd : Bool), DataW.Trod enc P w' b' sp hd t v d [] := by
  obtain ⟨fuel, hf⟩ := h
  have hpl : Plain P t := .str ht (fun f hf => by
    simp at hf
    rcases hf with rfl | rfl | rfl
    · rw [o0.2]; exact .int hti
    · rw [o1.2]; exact .int hti
    · rw [o2.2]; exact .arr hg (.arr hr (.int he)))
  have hp := fun w' b' sp hd => trod_plain hpl fuel _ _ hf w' b' sp hd
  have hq : p = [] := (hp w base spare held).2
  subst hq
  obtain ⟨cs, rfl, hsz⟩ := okWide_struct ht hv
  obtain ⟨xs, m, rfl, hx, hl, hm⟩ := trod_struct' ht hf
  have h0 := mapM_each hm f0 (by simp)
  have h1 := mapM_each hm f1 (by simp)
  have h2 := mapM_each hm f2 (by simp)
  obtain ⟨y0, h0⟩ := h0
  obtain ⟨y1, h1⟩ := h1
  obtain ⟨y2, h2⟩ := h2
  rw [o0.1, o0.2, hci] at h0
  rw [o1.1, o1.2, hci] at h1
  rw [o2.1, o2.2, hcg] at h2
  obtain ⟨z0, e0, _, w0⟩ := DataW.trod_int hti h0
  obtain ⟨z1, e1, _, w1⟩ := DataW.trod_int hti h1
  obtain ⟨hl2, hz⟩ := ints_of_grid hg hr he hce hcr hcg h2
  simp only [Value.cells] at hl e0 e1 hl2 hz
  rw [hct] at hl
  have e := tl_of (cs := cs.toList) (o := 2) (n := 36) hl (fun i hi => by
    have := hz i hi
    rwa [List.getElem?_take, if_pos hi, List.getElem?_drop] at this)
  refine ⟨z0, z1, numAt cs.toList 2, ?_, ⟨(i8_wf w0).1, (i8_wf w0).2, (i8_wf w1).1, (i8_wf w1).2, e.2⟩, rfl, fun w' b' sp hd => ⟨m + 1, (hp w' b' sp hd).1⟩⟩
  show Value.agg cs = Value.agg _
  congr 1
  unfold CL
  rw [← e.1]
  have hc : cs = cs.toList.toArray := by simp
  conv => lhs; rw [hc]
  congr 1
  generalize cs.toList = l at hl e0 e1
  match l, hl with
  | a :: b :: l', _ =>
    simp at e0 e1
    subst e0 e1
    rfl
end
end Go.Proofs.YtklddmmbbaaliaaDoor
