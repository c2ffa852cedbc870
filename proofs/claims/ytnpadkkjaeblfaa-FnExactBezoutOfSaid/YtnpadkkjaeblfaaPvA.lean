/-
  A list of nimbers appended to a row of one's own, of two slice types.
-/
import Derived.Test.YtnpadkkjaeblfaaPvS
import Derived.Lib.SliceRun
import Derived.Laws.AppendOwnNone
namespace Go.Proofs.Ytnpadkkjaeblfaa
set_option linter.unusedVariables false
set_option linter.unusedSimpArgs false
open Go.ChangeShapes Go.WideShapes Go.ChangeAt Go.RowKit

theorem NS.spot {w : World} {A : Option Addr} {n c : Nat} {zs : List Int} (h : NS w (.slice A n c) zs) : n = zs.length ∧ (0 < zs.length → ∃ b off, A = some ⟨b, off, none⟩ ∧ b < w.heap.size ∧ ∀ i, i < zs.length → w.cell? ⟨b, off + i, none⟩ = some (.int .u16 (zs.getD i 0))) := by
  obtain ⟨A', c', e, _, hc⟩ := h
  cases e
  exact ⟨rfl, hc⟩
theorem NS.cut {w : World} {A : Option Addr} {n c : Nat} {zs : List Int} (h : NS w (.slice A n c) zs) (t : Nat) (ht : t ≤ zs.length) (c' : Nat) : NS w (.slice A t c') (zs.take t) := by
  obtain ⟨A', c0, e, hz, hc⟩ := h
  cases e
  have hl : (zs.take t).length = t := by rw [List.length_take]; omega
  refine ⟨A, c', by rw [hl], fun z hz' => hz z (List.mem_of_mem_take hz'), fun hn => ?_⟩
  rw [hl] at hn ⊢
  obtain ⟨b, off, rfl, hlt, hcell⟩ := hc (by omega)
  refine ⟨b, off, rfl, hlt, fun i hi => ?_⟩
  rw [hcell i (by omega)]
  congr 2
  simp [List.getD, List.getElem?_take, hi]
theorem NS.nil (w : World) (A : Option Addr) (c : Nat) : NS w (.slice A 0 c) [] := ⟨A, c, rfl, fun z hz => (by cases hz), fun hn => (by simp at hn)⟩
theorem u16s_one (zs : List Int) : ∀ u ∈ u16s zs, u.oneCell' = true := by
  intro u hu
  obtain ⟨x, _, rfl⟩ := List.mem_map.1 hu
  rfl
theorem u16s_cell {w : World} {b off : Nat} {zs : List Int} (hc : ∀ i, i < zs.length → w.cell? ⟨b, off + i, none⟩ = some (.int .u16 (zs.getD i 0))) (j : Nat) (u : Value) (h : (u16s zs)[j]? = some u) :
    w.cell? ((⟨b, off, none⟩ : Addr).add j) = some u := by
  have hj : j < zs.length := by
    have := (List.getElem?_eq_some_iff.1 h).1
    simpa [u16s] using this
  rw [Addr.add_lit, hc j hj, ← h]
  simp [u16s, List.getD, hj]
/-- the value v is a slice that holds the nimbers zs, and has room for them -/
def NC (w : World) (v : Value) (zs : List Int) : Prop := ∃ A c, v = .slice A zs.length c ∧ zs.length ≤ c ∧ NS w v zs
theorem NC.ns {w : World} {v : Value} {zs : List Int} (h : NC w v zs) : NS w v zs := by obtain ⟨_, _, _, _, h⟩ := h; exact h
theorem NC.below {w w' : World} {v : Value} {zs : List Int} (h : NC w v zs) (hb : Below w.heap.size w w') : NC w' v zs := by
  obtain ⟨A, c, e, hc, h⟩ := h
  exact ⟨A, c, e, hc, h.below hb⟩
theorem NC.inU {w : World} {v : Value} {zs : List Int} (h : NC w v zs) : inU zs := h.ns.all
theorem PO.nc {w : World} {B : Nat} {v : Value} {zs : List Int} (h : PO w B v zs) : NC w v zs := by
  have hn := h.ns
  obtain ⟨A, c, e, h1, h2⟩ := h.form
  exact ⟨A, c, e, h1, hn⟩
theorem PO.inU {w : World} {B : Nat} {v : Value} {zs : List Int} (h : PO w B v zs) : inU zs := h.all
theorem NC.form {w : World} {v : Value} {zs : List Int} (h : NC w v zs) : ∃ A c, v = .slice A zs.length c ∧ zs.length ≤ c := by
  obtain ⟨A, c, e, hc, h⟩ := h
  exact ⟨A, c, e, hc⟩
/-! a row of nimbers in one block -/
def RW (w : World) (g : Nat) (zs : List Int) : Prop := w.heap[g]? = some (.cells (u16s zs).toArray 41 (0, 0))
theorem RW.lt {w : World} {g : Nat} {zs : List Int} (h : RW w g zs) : g < w.heap.size := (Array.getElem?_eq_some_iff.1 h).1
theorem RW.cell {w : World} {g : Nat} {zs : List Int} (h : RW w g zs) (i : Nat) (hi : i < zs.length) : w.cell? ⟨g, i, none⟩ = some (.int .u16 (zs.getD i 0)) :=
  (cell_of_row _ _ _ _ _ _ h).trans (by simp [u16s, List.getD, hi])
theorem RW.free {w : World} {g : Nat} {zs : List Int} (h : RW w g zs) (i : Nat) : w.frozen? ⟨g, i, none⟩ = false := by
  unfold World.frozen?; rw [h]; simp
theorem RW.set {w : World} {g : Nat} {zs : List Int} (h : RW w g zs) (i : Nat) (x : Int) : RW (w.setCell ⟨g, i, none⟩ (.int .u16 x)) g (zs.set i x) := by
  unfold RW
  rw [heap_setCell_same w g i _ _ _ h]
  congr 2
  apply Array.ext'
  simp [u16s, List.map_set]
theorem RW.other {w : World} {g b o : Nat} {zs : List Int} (h : RW w g zs) (hb : b ≠ g) (v : Value) : RW (w.setCell ⟨b, o, none⟩ v) g zs := by
  unfold RW; rw [heap_setCell_other _ _ _ _ (by simpa using hb.symm)]; exact h
theorem RW.below {w w' : World} {g B : Nat} {zs : List Int} (h : RW w g zs) (hb : Below B w w') (hg : g < B) : RW w' g zs := (hb.block g hg).trans h
theorem RW.drewN {w : World} {g : Nat} {zs : List Int} (h : RW w g zs) (m : Nat) : RW (w.drewN m) g zs := h
theorem RW.own {w : World} {g B : Nat} {zs : List Int} (h : RW w g zs) (hB : B ≤ g) (hm : zs.length ≤ maxLen) : w.ownsRow B 41 1 (.slice (some ⟨g, 0, none⟩) zs.length zs.length) zs.length (u16s zs) :=
  ⟨by simp [u16s], .inr ⟨g, zs.length, (u16s zs).toArray, rfl, hB, h, Nat.le_refl _, hm, by simp [u16s], by rw [Nat.mul_one]; exact List.take_of_length_le (by simp [u16s])⟩⟩
theorem RW.of_own {w : World} {g B n : Nat} {zs : List Int} (h : w.ownsRow B 41 1 (.slice (some ⟨g, 0, none⟩) n n) n (u16s zs)) : RW w g zs := by
  rcases h.2 with ⟨e, _⟩ | ⟨g', cap, cur, e, _, hg, _, _, hs, ht⟩
  · cases e
  · cases e
    unfold RW
    have e3 : (u16s zs).toArray = cur := by
      rw [← ht]
      apply Array.ext'
      rw [Nat.mul_one]
      exact List.take_of_length_le (by rw [Array.length_toList]; omega)
    rw [hg, e3]
theorem RW.ns {w : World} {g : Nat} {zs : List Int} (h : RW w g zs) (hz : inU zs) (c : Nat) : NS w (.slice (some ⟨g, 0, none⟩) zs.length c) zs :=
  ⟨_, c, rfl, hz, fun _ => ⟨g, 0, rfl, h.lt, fun i hi => by rw [Nat.zero_add]; exact h.cell i hi⟩⟩
theorem RW.po {w : World} {g B : Nat} {zs : List Int} (h : RW w g zs) (hz : inU zs) (hB : B ≤ g) (hm : zs.length ≤ maxLen) : PO w B (.slice (some ⟨g, 0, none⟩) zs.length zs.length) zs :=
  PO.of_own (h.own hB hm) rfl hz
section
variable {P : Program} {w : World}
theorem run_append_types {t u e : TypeId} (ht : P.underlying t = some (.slice e)) (hu : P.underlying u = some (.slice e)) (ty : TypeId) {i : TypeInfo} (hi : P.info? e = some i) (A : Option Addr) (n c : Nat) (y : Value) :
    (Builtin.append_ #[t, u] ty #[.slice A n c, y]).run P w = (Builtin.append_ #[t, t] ty #[.slice A n c, y]).run P w := by
  unfold Builtin.append_
  simp [run_underlying ht, run_underlying hu, sizeOf, typeInfo, hi]
theorem wpList_append_ns {ops : Array Oper} {rest : List Oper} {o : Oper} {a : Act} {Q : Exit → Act → World → Prop} (hgd : o.guard = none) (s x : Operand) (t u : TypeId)
    (ho : o.op = .call { callee := .builtin .append, args := #[s, x], argTypes := #[t, u] })
    (base : Nat) (e : TypeId) (i : TypeInfo) (z : Value) (ht : P.underlying t = some (.slice e)) (hu : P.underlying u = some (.slice e)) (hi : P.info? e = some i) (hz : i.zero = some z)
    (hsize : i.size = 1) (hby : i.bytes = 2) (hzs : z.cells.size = 1)
    (v : Value) (n : Nat) (xs : List Value) (hs : a.eval s = v) (hown : w.ownsRow base e 1 v n xs)
    (vx : Value) (zs : List Int) (hx : a.eval x = vx) (hN : NS w vx zs) (hn : n + zs.length ≤ 16777216) (hbase : base ≤ w.heap.size)
    (h : ∀ v' w', w'.ownsRow base e 1 v' (n + zs.length) (xs ++ u16s zs) → w.grownBy w' v.ownBlock → (v' = .slice none 0 0 ↔ v = .slice none 0 0 ∧ zs.length = 0) → wpList P ops Q rest (a.put o.dst v') w') :
    wpList P ops Q (o :: rest) a w := by
  refine wpList_plain hgd fun K hK => ?_
  obtain ⟨A, c, rfl, hz', hc⟩ := hN
  have main : ∃ v' w', (Builtin.append_ #[t, t] o.type #[v, .slice A zs.length c]).run P w = .ok v' w' ∧ w'.ownsRow base e 1 v' (n + zs.length) (xs ++ u16s zs) ∧ w.grownBy w' v.ownBlock ∧ (v' = .slice none 0 0 ↔ v = .slice none 0 0 ∧ zs.length = 0) := by
    cases A with
    | none =>
      have hl0 : zs.length = 0 := by
        rcases Nat.eq_zero_or_pos zs.length with e | e
        · exact e
        · obtain ⟨b, off, e2, _⟩ := hc e
          cases e2
      have e0 : zs = [] := List.length_eq_zero_iff.1 hl0
      subst e0
      have hrun : (Builtin.append_ #[t, t] o.type #[v, .slice none 0 c]).run P w = .ok v w := by
        rcases hown.2 with ⟨rfl, rfl⟩ | ⟨g, cap, cur, rfl, _, _, hnc, _⟩
        · simp [Builtin.append_, run_underlying ht, sizeOf, typeInfo, hi, Builtin.lenOf, Builtin.firstCells]
        · simp [Builtin.append_, run_underlying ht, sizeOf, typeInfo, hi, Builtin.lenOf, Builtin.firstCells, hnc, storeCells]
      exact ⟨v, w, hrun, by simpa [u16s] using hown, ⟨rfl, rfl, rfl, Nat.le_refl _, fun _ _ _ => rfl⟩, by simp⟩
    | some ad =>
      refine run_append_own (P := P) w base t o.type e i z 1 2 ht hi hz hsize hby hzs (by decide) v n xs hown ad zs.length c (u16s zs) (by simp [u16s]) ?_ (u16s_one zs) (by unfold maxLen; omega) (by omega) hbase
      intro j y hj
      have hj' : j < zs.length := by
        have := (List.getElem?_eq_some_iff.1 hj).1
        simpa [u16s] using this
      obtain ⟨b, off, e2, _, hcell⟩ := hc (by omega)
      cases e2
      exact u16s_cell hcell j y hj
  obtain ⟨v', w', hr, h2, h3, h4⟩ := main
  obtain ⟨A0, c0, rfl⟩ : ∃ A0 c0, v = .slice A0 n c0 := by
    rcases hown.2 with ⟨e1, e2⟩ | ⟨g, cap, cur, e1, _⟩
    · exact ⟨none, 0, by rw [e1, e2]⟩
    · exact ⟨_, _, e1⟩
  rw [← run_append_types ht hu _ hi] at hr
  unfold Oper.wp execOp
  simp only [ho, resolve, invoke, builtin, Sem.run_bind, Sem.run_pure, Result.andThen_ok, List.map_toArray, List.map_cons, List.map_nil, hs, hx, hr]
  exact hK _ _ (h v' w' h2 h3 h4)
end
end Go.Proofs.Ytnpadkkjaeblfaa
