/-
  Lists of nimbers that are an answer: marked, and looked at again.
-/
import Derived.Test.YthhjhfkcgokffaaLaw
import Derived.OwnWalk
namespace Go.Proofs.Ythhjhfkcgokffaa
set_option linter.unusedVariables false
set_option linter.unusedSimpArgs false
open Go.ChangeShapes Go.WideShapes Go.ChangeAt Go.RowKit
theorem own_form {w : World} {base n : Nat} {e : TypeId} {size : Nat} {v : Value} {xs : List Value} (h : w.ownsRow base e size v n xs) :
    ∃ A c, v = .slice A n c ∧ n ≤ maxLen ∧ (0 < n → ∃ g, A = some ⟨g, 0, none⟩ ∧ base ≤ g ∧ g < w.heap.size) := by
  rcases h.2 with ⟨rfl, rfl⟩ | ⟨g, cap, cur, rfl, h1, hg, h2, h3, _⟩
  · exact ⟨none, 0, rfl, Nat.zero_le _, fun x => by omega⟩
  · exact ⟨some ⟨g, 0, none⟩, cap, rfl, by omega, fun _ => ⟨g, rfl, h1, (Array.getElem?_eq_some_iff.1 hg).1⟩⟩
theorem grown_put (w : World) (g o : Nat) (x : Value) : w.grownBy (w.setCell ⟨g, o, none⟩ x) (some g) := by
  refine ⟨rfl, rfl, rfl, by simp [World.setCell], fun k hk hne => ?_⟩
  exact Below.heap_setCell _ _ _ _ (fun e => hne (by have e2 : k = g := by first | exact e | exact e.symm
                                                     rw [e2]))
theorem grown_trans {a b c : World} {r : Option Nat} (h1 : a.grownBy b r) (h2 : b.grownBy c r) : a.grownBy c r :=
  ⟨h2.os.trans h1.os, h2.tape.trans h1.tape, h2.output.trans h1.output, Nat.le_trans h1.size h2.size, fun k hk hne => (h2.block k (Nat.lt_of_lt_of_le hk h1.size) hne).trans (h1.block k hk hne)⟩
theorem grown_refl (w : World) (r : Option Nat) : w.grownBy w r := ⟨rfl, rfl, rfl, Nat.le_refl _, fun _ _ _ => rfl⟩
def mark16 (m n : Nat) : List Int := (List.range n).map fun j => IntKind.wrap .u16 ((m + j : Nat) : Int)
theorem mark16_len (m n : Nat) : (mark16 m n).length = n := by unfold mark16; simp
theorem wrap16_small (m : Int) : 0 ≤ IntKind.wrap .u16 m ∧ IntKind.wrap .u16 m < 65536 := by
  simp only [IntKind.wrap, show IntKind.u16.bits = 16 from rfl, show IntKind.u16.signed = false from rfl]
  constructor <;> (simp; omega)
theorem mark16_small (m n : Nat) : ∀ z ∈ mark16 m n, 0 ≤ z ∧ z < 65536 := by
  intro z hz
  unfold mark16 at hz
  obtain ⟨j, _, rfl⟩ := List.mem_map.1 hz
  exact wrap16_small _
theorem mark16_at (m n j : Nat) (hj : j < n) : (mark16 m n).getD j 0 = IntKind.wrap .u16 ((m + j : Nat) : Int) := by
  unfold mark16
  simp [List.getD, hj]
/-- the row while it is being marked -/
def mrk16 (zs : List Int) (m k : Nat) : List Value := u16s (mark16 m k) ++ (u16s zs).drop k
theorem mrk16_zero (zs : List Int) (m : Nat) : mrk16 zs m 0 = u16s zs := by simp [mrk16, mark16, u16s]
theorem mrk16_end (zs : List Int) (m : Nat) : mrk16 zs m zs.length = u16s (mark16 m zs.length) := by simp [mrk16, u16s]
theorem mrk16_next (zs : List Int) (m k : Nat) (hk : k < zs.length) : ∃ x, (mrk16 zs m k)[k]? = some x := by
  refine ⟨_, List.getElem?_eq_getElem (by simp [mrk16, u16s, mark16]; omega)⟩
theorem mrk16_set (zs : List Int) (m k : Nat) (hk : k < zs.length) : (mrk16 zs m k).set k (.int .u16 (IntKind.wrap .u16 ((m + k : Nat) : Int))) = mrk16 zs m (k + 1) := by
  unfold mrk16
  have e : (u16s zs).drop k = .int .u16 zs[k] :: (u16s zs).drop (k + 1) := by
    rw [List.drop_eq_getElem_cons (by simpa [u16s] using hk)]
    simp [u16s]
  rw [List.set_append_right k _ (by simp [u16s, mark16]), e]
  have l : (u16s (mark16 m k)).length = k := by simp [u16s, mark16]
  rw [l, Nat.sub_self, List.set_cons_zero]
  unfold mark16
  rw [List.range_succ, List.map_append]
  simp [u16s]
end Go.Proofs.Ythhjhfkcgokffaa
