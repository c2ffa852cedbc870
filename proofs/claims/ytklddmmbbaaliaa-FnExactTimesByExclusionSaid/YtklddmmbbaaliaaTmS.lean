/-
  Products by exclusion: the specification.
-/
import Derived.Test.YtklddmmbbaaliaaTm
import Derived.Laws.BitsAllLaws
namespace Go.Proofs.Ytklddmmbbaaliaa
set_option linter.unusedVariables false
set_option linter.unusedSimpArgs false
open Go.ChangeShapes Go.WideShapes Go.ChangeAt Go.RowKit
theorem zeroArr {t : TypeId} {n : Nat} (isV : Value → Bool) (v0 : Value) (hv : ∀ v, isV v = true → v = v0)
    (h1 : ((Try.prog.info? t).bind (·.zero)).map (fun z => z.cells.toList.all isV) = some true) (h2 : (Try.prog.info? t).map (fun i => (i.size, i.zero.isSome)) = some (n, true))
    (h3 : ((Try.prog.info? t).bind (·.zero)).map (fun z => z.cells.size) = some n) (h4 : ((Try.prog.info? t).bind (·.zero)).map (fun z => match z with | .agg _ => true | _ => false) = some true) :
    ∃ (it : TypeInfo), Try.prog.info? t = some it ∧ it.zero = some (.agg (List.replicate n v0).toArray) ∧ it.size = n := by
  generalize Try.prog.info? t = oi at h1 h2 h3 h4 ⊢
  cases oi with
  | none => simp at h2
  | some it =>
    cases hz : it.zero with
    | none => simp [hz] at h3
    | some z =>
      simp only [Option.bind_some, hz, Option.map_some, Option.some.injEq] at h1 h3 h4
      simp only [Option.map_some, Option.some.injEq, Prod.mk.injEq] at h2
      refine ⟨it, rfl, ?_, h2.1⟩
      cases z with
      | agg cs =>
        simp only [Value.cells] at h1 h3
        refine hz.trans (congrArg (fun x => some (Value.agg x)) ?_)
        apply Array.ext
        · show cs.size = (List.replicate n v0).toArray.size
          rw [h3]; simp
        · intro i h5 h6
          have e1 := List.all_eq_true.1 h1 cs[i] (by simp)
          rw [hv _ e1]
          simp
      | _ => simp at h4
def isZ : Value → Bool | .int .u16 n => n == 0 | _ => false
theorem isZ_eq (v : Value) (h : isZ v = true) : v = .int .u16 0 := by
  unfold isZ at h
  split at h
  · simp at h; rw [h]
  · cases h
theorem rangeC (n : Nat) (c : Value) : (List.range n).map (fun _ => c) = List.replicate n c := by
  induction n with
  | zero => rfl
  | succ n ih => rw [List.range_succ, List.map_append, ih, List.replicate_succ']; rfl
theorem UL_zero : UL (fun _ _ => 0) = List.replicate 1024 (.int .u16 0) := rangeC 1024 (.int .u16 0)
theorem BL_zero (n : Nat) : BL n (fun _ => false) = List.replicate n (.bool false) := rangeC n (.bool false)
theorem zeroU : ∃ (it : TypeInfo), Try.prog.info? 38 = some it ∧ it.zero = some (.agg (UL fun _ _ => 0).toArray) ∧ it.size = 1024 := by
  rw [UL_zero]; exact zeroArr isZ _ isZ_eq (by kernel_rfl) (by kernel_rfl) (by kernel_rfl) (by kernel_rfl)
theorem zeroS : ∃ (it : TypeInfo), Try.prog.info? 39 = some it ∧ it.zero = some (.agg (BL 1024 fun _ => false).toArray) ∧ it.size = 1024 := by
  rw [BL_zero]; exact zeroArr isF _ (fun v h => isF_eq h) (by kernel_rfl) (by kernel_rfl) (by kernel_rfl) (by kernel_rfl)
theorem uu : Try.prog.underlying 38 = some (.array 32 37) := by kernel_rfl
theorem us : Try.prog.underlying 39 = some (.array 1024 4) := by kernel_rfl
theorem UL_one (f : Nat → Nat → Nat) : (UL f).toArray.all (·.oneCell') = true := all_oneCell_toArray (fun v hv => by
  unfold UL at hv
  obtain ⟨_, _, rfl⟩ := List.mem_map.1 hv
  rfl)
section
variable {w : World} {g : Nat} {f : Nat → Nat → Nat}
def UB (w : World) (g : Nat) (f : Nat → Nat → Nat) : Prop := w.heap[g]? = some (.cells (UL f).toArray 38 (0, 0))
theorem UB.cell (h : UB w g f) (x y : Nat) (hx : x < 32) (hy : y < 32) : w.cell? ⟨g, x * 32 + y, none⟩ = some (.int .u16 ((f x y : Nat) : Int)) := (cell_of_row _ _ _ _ _ _ h).trans (by rw [List.getElem?_toArray]; exact UL_at f x y hx hy)
theorem UB.free (h : UB w g f) (o : Nat) : w.frozen? ⟨g, o, none⟩ = false := by
  unfold World.frozen?; rw [h]; simp
theorem UB.put (h : UB w g f) (i k u : Nat) (hi : i < 32) (hk : k < 32) : UB (w.setCell ⟨g, i * 32 + k, none⟩ (.int .u16 ((u : Nat) : Int))) g (upd2 f i k u) := by
  unfold UB; rw [heap_setCell_same w g _ _ _ _ h, List.setIfInBounds_toArray, UL_set f i k u hi hk]
theorem UB.lt (h : UB w g f) : g < w.heap.size := (Array.getElem?_eq_some_iff.1 h).1
theorem UB.below {w' : World} {B : Nat} (h : UB w g f) (hb : Below B w w') (hlt : g < B) : UB w' g f := (hb.block g hlt).trans h
theorem UB.other (h : UB w g f) {p : Addr} (v : Value) (hp : p.block ≠ g) : UB (w.setCell p v) g f := by
  unfold UB; rw [heap_setCell_other _ _ _ _ (Ne.symm hp)]; exact h
end
end Go.Proofs.Ytklddmmbbaaliaa
