/-
  A row of words sorted.
-/
import Derived.Test.YthhjhfkcgokffaaYn
import Derived.Test.YthhjhfkcgokffaaYk
import Derived.Test.YthhjhfkcgokffaaShelf
import Derived.Shelf.SlSortCmp.NoneTotal
namespace Go.Proofs.Ythhjhfkcgokffaa
set_option linter.unusedVariables false
set_option linter.unusedSimpArgs false
open Go.ChangeShapes Go.WideShapes Go.ChangeAt Go.RowKit Go.Shelf

/-- the value v is the word zs, whatever block g holds -/
def NX (w : World) (g : Nat) (v : Value) (zs : List Int) : Prop := ∀ W : World, w.heap.size ≤ W.heap.size → (∀ k, k ≠ g → k < w.heap.size → W.heap[k]? = w.heap[k]?) → NS W v zs
def SWd (w : World) (g : Nat) : Type := {p : Value × List Int // (∃ A n c, p.1 = .slice A n c) ∧ NX w g p.1 p.2 ∧ p.2.length ≤ 1048576}
instance (w : World) (g : Nat) : Inhabited (SWd w g) := ⟨⟨(.slice none 0 0, []), ⟨none, 0, 0, rfl⟩, fun W _ _ => NS.nil W none 0, Nat.zero_le _⟩⟩
def encS {w : World} {g : Nat} (x : SWd w g) : Value := x.1.1
def cfS {w : World} {g : Nat} (x y : SWd w g) : Int := cmpL x.1.2 y.1.2
theorem encS_one {w : World} {g : Nat} (x : SWd w g) : (encS x).oneCell' = true := by
  obtain ⟨A, n, c, e⟩ := x.2.1
  unfold encS
  rw [e]; rfl
theorem swoS (w : World) (g : Nat) : Go.Sort.SWO (ltOf (cfS (w := w) (g := g))) where
  irrefl x := by unfold ltOf cfS; rw [cmpL_refl]; rfl
  trans x y z h1 h2 := by
    unfold ltOf cfS at *
    rw [decide_eq_true_iff] at *
    exact cmpL_trans _ _ _ h1 h2
  ntrans x y z h1 h2 := by
    unfold ltOf cfS at *
    rw [decide_eq_false_iff_not] at *
    have a1 := cmpL_anti x.1.2 y.1.2
    have a2 := cmpL_anti y.1.2 z.1.2
    have a3 := cmpL_anti x.1.2 z.1.2
    intro h3
    by_cases e1 : cmpL y.1.2 x.1.2 = 0
    · have := cmpL_eq _ _ e1
      rw [← this] at h3
      exact h2 h3
    · by_cases e2 : cmpL z.1.2 y.1.2 = 0
      · have := cmpL_eq _ _ e2
        rw [this] at h3
        exact h1 h3
      · have h4 := cmpL_trans z.1.2 y.1.2 x.1.2 (by omega) (by omega)
        omega
theorem sw_other {α : Type} [Inhabited α] (enc : α → Value) (w : World) (g off m : Nat) (dk : Array α) (os : Array Obj) (k : Nat) (hk : k ≠ g) (hlt : k < w.heap.size) : (sortWorld enc w g off m dk os).heap[k]? = w.heap[k]? := by
  have h1 : (Go.Sort.putRow enc (Go.Sort.ahead w m) g off dk).heap[k]? = w.heap[k]? := by
    show (w.heap.modify g _)[k]? = _
    rw [Array.getElem?_modify, if_neg (fun e => hk e.symm)]
  show ((Go.Sort.putRow enc (Go.Sort.ahead w m) g off dk).heap ++ os)[k]? = _
  rw [Array.getElem?_append_left (by rw [Go.Sort.size_putRow]; exact hlt)]
  exact h1
theorem sw_same {α : Type} [Inhabited α] (enc : α → Value) (w : World) (g off m : Nat) (dk : Array α) (os : Array Obj) (cur : Array Value) (t : TypeId) (fr : Nat × Nat) (hg : w.heap[g]? = some (.cells cur t fr)) : (sortWorld enc w g off m dk os).heap[g]? = some (.cells (Go.Sort.putCells enc off dk cur) t fr) := by
  have hlt := (Array.getElem?_eq_some_iff.1 hg).1
  have h1 : (Go.Sort.putRow enc (Go.Sort.ahead w m) g off dk).heap[g]? = some (.cells (Go.Sort.putCells enc off dk cur) t fr) := by
    show (w.heap.modify g _)[g]? = _
    rw [Array.getElem?_modify, if_pos rfl, hg]
    rfl
  show ((Go.Sort.putRow enc (Go.Sort.ahead w m) g off dk).heap ++ os)[g]? = _
  rw [Array.getElem?_append_left (by rw [Go.Sort.size_putRow]; exact hlt)]
  exact h1
theorem sw_size {α : Type} [Inhabited α] (enc : α → Value) (w : World) (g off m : Nat) (dk : Array α) (os : Array Obj) : w.heap.size ≤ (sortWorld enc w g off m dk os).heap.size := by
  show _ ≤ ((Go.Sort.putRow enc (Go.Sort.ahead w m) g off dk).heap ++ os).size
  rw [Array.size_append, Go.Sort.size_putRow]
  exact Nat.le_add_right _ _
theorem cmpS_reads (w : World) (g n : Nat) : CmpReads Try.prog 142 #[] (encS (w := w) (g := g)) cfS g 0 n w := by
  intro m os dk hs x y
  obtain ⟨p, hp1, hp2, hp3⟩ := x
  obtain ⟨q, hq1, hq2, hq3⟩ := y
  have hx := hp2 (sortWorld encS w g 0 m dk os) (sw_size encS w g 0 m dk os) (fun k hk hlt => sw_other encS w g 0 m dk os k hk hlt)
  have hy := hq2 (sortWorld encS w g 0 m dk os) (sw_size encS w g 0 m dk os) (fun k hk hlt => sw_other encS w g 0 m dk os k hk hlt)
  refine (compare_any p.1 q.1 p.2 q.2 hp3 hq3 _ hx hy).mono ?_
  rintro e w' ⟨rfl, rfl⟩
  exact ⟨rfl, 0, rfl⟩
/-- sorted, from the first words on -/
def SrtL (xs : List (List Int)) : Prop := ∀ i j, i < j → j < xs.length → ¬ cmpL (xs.getD j []) (xs.getD i []) < 0
theorem own_sorted {w : World} {B g n c m : Nat} {vs : List Value} {g0 : Nat} (d : Array (SWd w g)) (os : Array Obj) (hs : d.size = n) (h : w.ownsRow B 25 1 (.slice (some ⟨g, 0, none⟩) n c) n vs) :
    (sortWorld encS w g 0 m d os).ownsRow B 25 1 (.slice (some ⟨g, 0, none⟩) n c) n (d.toList.map encS) := by
  refine ⟨by simp [hs], ?_⟩
  rcases h.2 with ⟨e, h0⟩ | ⟨g', cap, cur, e, hb, hg, h1, h2, h3, h4⟩
  · cases e
  · cases e
    refine .inr ⟨g, c, Go.Sort.putCells encS 0 d cur, rfl, hb, sw_same encS w g 0 m d os cur 25 (0, 0) hg, h1, h2, ?_, ?_⟩
    · unfold Go.Sort.putCells
      rw [Array.size_mapIdx]; exact h3
    · apply List.ext_getElem?
      intro i
      rw [Nat.mul_one, List.getElem?_take]
      by_cases hi : i < n
      · rw [if_pos hi]
        unfold Go.Sort.putCells
        have hic : i < cur.size := by omega
        rw [Array.getElem?_toList, Array.getElem?_mapIdx, Array.getElem?_eq_getElem hic, Option.map_some, if_pos ⟨Nat.zero_le _, by omega⟩, List.getElem?_map, Nat.sub_zero]
        rw [Array.getElem?_toList, getElem!_pos d i (by omega), Array.getElem?_eq_getElem (by omega)]
        rfl
      · rw [if_neg hi, List.getElem?_eq_none (by simp; omega)]
set_option maxHeartbeats 2000000 in
theorem sortWords_any (w : World) (B g n c : Nat) (vs : List Value) (gs : List (List Int)) (hn : n ≤ 1048576) (hl : gs.length = n) (ho : w.ownsRow B 25 1 (.slice (some ⟨g, 0, none⟩) n c) n vs)
    (hx : ∀ i, i < n → ∃ u, vs[i]? = some u ∧ (∃ A m c, u = .slice A m c) ∧ NX w g u (gs.getD i []) ∧ (gs.getD i []).length ≤ 1048576) :
    Calls Try.prog 161 #[.slice (some ⟨g, 0, none⟩) n c, .func (.func 142) #[] #[]] w fun e w' => e = .returned (.tuple #[]) ∧ ∃ ps : List (Value × List Int), ps.Perm (vs.zip gs) ∧ SrtL (ps.map (·.2)) ∧ w'.ownsRow B 25 1 (.slice (some ⟨g, 0, none⟩) n c) n (ps.map (·.1)) ∧ w.grownBy w' (some g) := by
  have hlv : vs.length = n := by have := ho.1; omega
  obtain ⟨cur, hg⟩ : ∃ cur, w.heap[g]? = some (.cells cur 25 (0, 0)) := own_tyw ho g rfl
  obtain ⟨d, hd⟩ : ∃ d : Array (SWd w g), d.size = n ∧ ∀ i (hi : i < n), ∃ x : SWd w g, d[i]? = some x ∧ vs[i]? = some x.1.1 ∧ x.1.2 = gs.getD i [] := by
    have main : ∀ k, k ≤ n → ∃ d : Array (SWd w g), d.size = k ∧ ∀ i (hi : i < k), ∃ x : SWd w g, d[i]? = some x ∧ vs[i]? = some x.1.1 ∧ x.1.2 = gs.getD i [] := by
      intro k
      induction k with
      | zero => exact fun _ => ⟨#[], rfl, fun i hi => absurd hi (by omega)⟩
      | succ k ih =>
        intro hk
        obtain ⟨d, hd1, hd2⟩ := ih (by omega)
        obtain ⟨u, q1, q2, q3, q4⟩ := hx k (by omega)
        obtain ⟨x0, hx0a, hx0b⟩ : ∃ x0 : SWd w g, x0.1.1 = u ∧ x0.1.2 = gs.getD k [] := ⟨⟨(u, gs.getD k []), q2, q3, q4⟩, rfl, rfl⟩
        refine ⟨d.push x0, by rw [Array.size_push, hd1], fun i hi => ?_⟩
        by_cases e : i < k
        · obtain ⟨x, r1, r2, r3⟩ := hd2 i e
          refine ⟨x, ?_, r2, r3⟩
          rw [Array.getElem?_push, if_neg (by omega)]
          exact r1
        · have ek : i = k := by omega
          refine ⟨x0, ?_, by rw [hx0a, ek]; exact q1, by rw [hx0b, ek]⟩
          rw [Array.getElem?_push, if_pos (by omega)]
    exact main n (Nat.le_refl _)
  obtain ⟨hd1, hd2⟩ := hd
  have hat : ∀ i, i < n → ∃ x : SWd w g, d[i]! = x ∧ vs[i]? = some x.1.1 ∧ x.1.2 = gs.getD i [] := fun i hi => by
    obtain ⟨x, r1, r2, r3⟩ := hd2 i hi
    refine ⟨x, ?_, r2, r3⟩
    rw [getElem!_pos d i (by omega)]
    rw [Array.getElem?_eq_getElem (by omega)] at r1
    exact Option.some.inj r1
  have hH : Go.Sort.Holds (encS (w := w) (g := g)) w g 0 d := fun j hj => by
    obtain ⟨x, r1, r2, r3⟩ := hat j (by omega)
    rw [r1, Nat.zero_add]
    exact ⟨by rw [ho.cellAt j (by omega)]; exact r2, ho.frozenAt j⟩
  have eg : ∀ args w, (callFunc 142 args).run Try.prog w = .ok (.enter 142 args) w := enters_of Try.func142 (by kernel_rfl) rfl
  have hsort := Any.slices_SortFunc Try.sortWords (encS (w := w) (g := g)) encS_one cfS (swoS w g) 142 #[] g 0 c d w eg (cmpS_reads w g d.size).lays hH (Array.getElem?_eq_some_iff.1 hg).1 (by rw [hd1]; omega)
  rw [hd1] at hsort
  refine hsort.mono ?_
  rintro e w' ⟨rfl, d', m, os, hperm, hsrt, rfl⟩
  refine ⟨rfl, d'.toList.map (fun x => x.1), ?_, ?_, ?_, ?_⟩
  · have h1 := hperm.2.2
    rw [show d'.extract 0 n = d' from by rw [← hd1, ← hperm.1]; exact Array.extract_size, show d.extract 0 n = d from by rw [← hd1]; exact Array.extract_size] at h1
    refine (h1.map (fun x => x.1)).trans ?_
    have : d.toList.map (fun x => x.1) = vs.zip gs := by
      apply List.ext_getElem?
      intro i
      by_cases hi : i < n
      · obtain ⟨x, r1, r2, r3⟩ := hd2 i hi
        have ez : (vs.zip gs)[i]? = some x.1 := List.getElem?_zip_eq_some.2 ⟨r2, by
          rw [List.getElem?_eq_getElem (by omega), r3]
          simp [List.getD, show i < gs.length from by omega]⟩
        rw [List.getElem?_map, Array.getElem?_toList, r1, ez]
        rfl
      · rw [List.getElem?_eq_none (by simp; omega), List.getElem?_eq_none (by simp; omega)]
    rw [this]
  · intro i j hij hj
    simp only [List.length_map, Array.length_toList] at hj
    have hs' : d'.size = n := by rw [hperm.1, hd1]
    have h2 := hsrt i j (Nat.zero_le _) hij (by omega)
    unfold ltOf cfS at h2
    rw [decide_eq_false_iff_not, getElem!_pos d' i (by omega), getElem!_pos d' j (by omega)] at h2
    simp only [List.map_map]
    rw [show ((d'.toList.map ((fun x => x.2) ∘ fun x => x.1)).getD j []) = d'[j].1.2 from by simp [List.getD, show j < d'.size from by omega], show ((d'.toList.map ((fun x => x.2) ∘ fun x => x.1)).getD i []) = d'[i].1.2 from by simp [List.getD, show i < d'.size from by omega]]
    exact h2
  · have := own_sorted (m := m) (g0 := 0) d' os (by rw [hperm.1, hd1]) ho
    rw [List.map_map]
    exact this
  · exact ⟨rfl, rfl, rfl, sw_size encS w g 0 m d' os, fun k hk hne => sw_other encS w g 0 m d' os k (fun e => hne (by rw [e])) hk⟩
theorem sortNone_any (A : Option Addr) (c : Nat) (fv : Value) (w : World) : Calls Try.prog 161 #[.slice A 0 c, fv] w fun e w' => e = .returned (.tuple #[]) ∧ w' = w :=
  AnyF.slices_SortFunc_none { Try.sortWords with } A c fv w
end Go.Proofs.Ythhjhfkcgokffaa
