/-
  Sums and products of words: of the model (appended one by one) and of the program (pairwise); PlusWord.
-/
import Derived.Test.YthhjhfkcgokffaaWc
import Derived.Deep.RegionHeld
import Derived.Lib.SliceRun
import Derived.Laws.AppendOwnNone
import Derived.Laws.CopyOwn
import Derived.StillTailTactics
import Derived.OwnWalk
namespace Go.Proofs.Ythhjhfkcgokffaa
set_option linter.unusedVariables false
set_option linter.unusedSimpArgs false
open Go.ChangeShapes Go.WideShapes Go.ChangeAt Go.RowKit

theorem NS.spot {w : World} {A : Option Addr} {n c : Nat} {zs : List Int} (h : NS w (.slice A n c) zs) : n = zs.length ∧ (0 < zs.length → ∃ b off, A = some ⟨b, off, none⟩ ∧ b < w.heap.size ∧ ∀ i, i < zs.length → w.cell? ⟨b, off + i, none⟩ = some (.int .u16 (zs.getD i 0))) := by
  obtain ⟨A', c', e, _, hc⟩ := h
  cases e
  exact ⟨rfl, hc⟩
theorem NS.cut {w : World} {A : Option Addr} {n c : Nat} {zs : List Int} (h : NS w (.slice A n c) zs) (t : Nat) (ht : t ≤ zs.length) (c' : Nat) : NS w (.slice A t c') (zs.take t) := by
  obtain ⟨A', c0, e, hz, hc⟩ := h
  cases e
  have hl : (zs.take t).length = t := by rw [List.length_take]; omega
  refine ⟨A, c', by rw [hl], fun z hz' => hz z (List.mem_of_mem_take hz'), fun hn => ?_⟩
  rw [hl] at hn ⊢
  obtain ⟨b, off, rfl, hlt, hcell⟩ := hc (by omega)
  refine ⟨b, off, rfl, hlt, fun i hi => ?_⟩
  rw [hcell i (by omega)]
  congr 2
  simp [List.getD, List.getElem?_take, hi]
theorem NS.nil (w : World) (A : Option Addr) (c : Nat) : NS w (.slice A 0 c) [] := ⟨A, c, rfl, fun z hz => (by cases hz), fun hn => (by simp at hn)⟩
theorem u16s_one (zs : List Int) : ∀ u ∈ u16s zs, u.oneCell' = true := by
  intro u hu
  obtain ⟨x, _, rfl⟩ := List.mem_map.1 hu
  rfl
theorem u16s_cell {w : World} {b off : Nat} {zs : List Int} (hc : ∀ i, i < zs.length → w.cell? ⟨b, off + i, none⟩ = some (.int .u16 (zs.getD i 0))) (j : Nat) (u : Value) (h : (u16s zs)[j]? = some u) :
    w.cell? ((⟨b, off, none⟩ : Addr).add j) = some u := by
  have hj : j < zs.length := by
    have := (List.getElem?_eq_some_iff.1 h).1
    simpa [u16s] using this
  rw [Addr.add_lit, hc j hj, ← h]
  simp [u16s, List.getD, hj]
/-- the value v is a slice that holds the nimbers zs, and has room for them -/
def NC (w : World) (v : Value) (zs : List Int) : Prop := ∃ A c, v = .slice A zs.length c ∧ zs.length ≤ c ∧ NS w v zs
theorem NC.ns {w : World} {v : Value} {zs : List Int} (h : NC w v zs) : NS w v zs := by obtain ⟨_, _, _, _, h⟩ := h; exact h
theorem NC.below {w w' : World} {v : Value} {zs : List Int} (h : NC w v zs) (hb : Below w.heap.size w w') : NC w' v zs := by
  obtain ⟨A, c, e, hc, h⟩ := h
  exact ⟨A, c, e, hc, h.below hb⟩
theorem NC.inU {w : World} {v : Value} {zs : List Int} (h : NC w v zs) : inU zs := h.ns.all
theorem PO.nc {w : World} {B : Nat} {v : Value} {zs : List Int} (h : PO w B v zs) : NC w v zs := by
  have hn := h.ns
  obtain ⟨A, c, e, h1, h2⟩ := h.form
  exact ⟨A, c, e, h1, hn⟩
theorem PO.inU {w : World} {B : Nat} {v : Value} {zs : List Int} (h : PO w B v zs) : inU zs := h.all
theorem NC.form {w : World} {v : Value} {zs : List Int} (h : NC w v zs) : ∃ A c, v = .slice A zs.length c ∧ zs.length ≤ c := by
  obtain ⟨A, c, e, hc, h⟩ := h
  exact ⟨A, c, e, hc⟩
/-! a row of nimbers in one block -/
def RW (w : World) (g : Nat) (zs : List Int) : Prop := w.heap[g]? = some (.cells (u16s zs).toArray 39 (0, 0))
theorem RW.lt {w : World} {g : Nat} {zs : List Int} (h : RW w g zs) : g < w.heap.size := (Array.getElem?_eq_some_iff.1 h).1
theorem RW.cell {w : World} {g : Nat} {zs : List Int} (h : RW w g zs) (i : Nat) (hi : i < zs.length) : w.cell? ⟨g, i, none⟩ = some (.int .u16 (zs.getD i 0)) :=
  (cell_of_row _ _ _ _ _ _ h).trans (by simp [u16s, List.getD, hi])
theorem RW.free {w : World} {g : Nat} {zs : List Int} (h : RW w g zs) (i : Nat) : w.frozen? ⟨g, i, none⟩ = false := by
  unfold World.frozen?; rw [h]; simp
theorem RW.tabcell2 {w : World} {g N : Nat} {f : Nat → Int} (h : RW w g (tab N f)) (i : Nat) (hi : i < N) : w.cell? ⟨g, i, none⟩ = some (.int .u16 ((tab N f).getD i 0)) := h.cell i (by rw [tab_len]; exact hi)
theorem RW.set {w : World} {g : Nat} {zs : List Int} (h : RW w g zs) (i : Nat) (x : Int) : RW (w.setCell ⟨g, i, none⟩ (.int .u16 x)) g (zs.set i x) := by
  unfold RW
  rw [heap_setCell_same w g i _ _ _ h]
  congr 2
  apply Array.ext'
  simp [u16s, List.map_set]
theorem RW.other {w : World} {g b o : Nat} {zs : List Int} (h : RW w g zs) (hb : b ≠ g) (v : Value) : RW (w.setCell ⟨b, o, none⟩ v) g zs := by
  unfold RW; rw [heap_setCell_other _ _ _ _ (by simpa using hb.symm)]; exact h
theorem RW.below {w w' : World} {g B : Nat} {zs : List Int} (h : RW w g zs) (hb : Below B w w') (hg : g < B) : RW w' g zs := (hb.block g hg).trans h
theorem RW.drewN {w : World} {g : Nat} {zs : List Int} (h : RW w g zs) (m : Nat) : RW (w.drewN m) g zs := h
theorem RW.own {w : World} {g B : Nat} {zs : List Int} (h : RW w g zs) (hB : B ≤ g) (hm : zs.length ≤ maxLen) : w.ownsRow B 39 1 (.slice (some ⟨g, 0, none⟩) zs.length zs.length) zs.length (u16s zs) :=
  ⟨by simp [u16s], .inr ⟨g, zs.length, (u16s zs).toArray, rfl, hB, h, Nat.le_refl _, hm, by simp [u16s], by rw [Nat.mul_one]; exact List.take_of_length_le (by simp [u16s])⟩⟩
theorem RW.of_own {w : World} {g B n : Nat} {zs : List Int} (h : w.ownsRow B 39 1 (.slice (some ⟨g, 0, none⟩) n n) n (u16s zs)) : RW w g zs := by
  rcases h.2 with ⟨e, _⟩ | ⟨g', cap, cur, e, _, hg, _, _, hs, ht⟩
  · cases e
  · cases e
    unfold RW
    have e3 : (u16s zs).toArray = cur := by
      rw [← ht]
      apply Array.ext'
      rw [Nat.mul_one]
      exact List.take_of_length_le (by rw [Array.length_toList]; omega)
    rw [hg, e3]
theorem RW.ns {w : World} {g : Nat} {zs : List Int} (h : RW w g zs) (hz : inU zs) (c : Nat) : NS w (.slice (some ⟨g, 0, none⟩) zs.length c) zs :=
  ⟨_, c, rfl, hz, fun _ => ⟨g, 0, rfl, h.lt, fun i hi => by rw [Nat.zero_add]; exact h.cell i hi⟩⟩
theorem RW.po {w : World} {g B : Nat} {zs : List Int} (h : RW w g zs) (hz : inU zs) (hB : B ≤ g) (hm : zs.length ≤ maxLen) : PO w B (.slice (some ⟨g, 0, none⟩) zs.length zs.length) zs :=
  PO.of_own (h.own hB hm) rfl hz
section
variable {P : Program} {w : World}
theorem run_append_types {t u e : TypeId} (ht : P.underlying t = some (.slice e)) (hu : P.underlying u = some (.slice e)) (ty : TypeId) {i : TypeInfo} (hi : P.info? e = some i) (A : Option Addr) (n c : Nat) (y : Value) :
    (Builtin.append_ #[t, u] ty #[.slice A n c, y]).run P w = (Builtin.append_ #[t, t] ty #[.slice A n c, y]).run P w := by
  unfold Builtin.append_
  simp [run_underlying ht, run_underlying hu, sizeOf, typeInfo, hi]
theorem wpList_append_ns {ops : Array Oper} {rest : List Oper} {o : Oper} {a : Act} {Q : Exit → Act → World → Prop} (hgd : o.guard = none) (s x : Operand) (t u : TypeId)
    (ho : o.op = .call { callee := .builtin .append, args := #[s, x], argTypes := #[t, u] })
    (base : Nat) (e : TypeId) (i : TypeInfo) (z : Value) (ht : P.underlying t = some (.slice e)) (hu : P.underlying u = some (.slice e)) (hi : P.info? e = some i) (hz : i.zero = some z)
    (hsize : i.size = 1) (hby : i.bytes = 2) (hzs : z.cells.size = 1)
    (v : Value) (n : Nat) (xs : List Value) (hs : a.eval s = v) (hown : w.ownsRow base e 1 v n xs)
    (vx : Value) (zs : List Int) (hx : a.eval x = vx) (hN : NS w vx zs) (hn : n + zs.length ≤ 16777216) (hbase : base ≤ w.heap.size)
    (h : ∀ v' w', w'.ownsRow base e 1 v' (n + zs.length) (xs ++ u16s zs) → w.grownBy w' v.ownBlock → (v' = .slice none 0 0 ↔ v = .slice none 0 0 ∧ zs.length = 0) → wpList P ops Q rest (a.put o.dst v') w') :
    wpList P ops Q (o :: rest) a w := by
  refine wpList_plain hgd fun K hK => ?_
  obtain ⟨A, c, rfl, hz', hc⟩ := hN
  have main : ∃ v' w', (Builtin.append_ #[t, t] o.type #[v, .slice A zs.length c]).run P w = .ok v' w' ∧ w'.ownsRow base e 1 v' (n + zs.length) (xs ++ u16s zs) ∧ w.grownBy w' v.ownBlock ∧ (v' = .slice none 0 0 ↔ v = .slice none 0 0 ∧ zs.length = 0) := by
    cases A with
    | none =>
      have hl0 : zs.length = 0 := by
        rcases Nat.eq_zero_or_pos zs.length with e | e
        · exact e
        · obtain ⟨b, off, e2, _⟩ := hc e
          cases e2
      have e0 : zs = [] := List.length_eq_zero_iff.1 hl0
      subst e0
      have hrun : (Builtin.append_ #[t, t] o.type #[v, .slice none 0 c]).run P w = .ok v w := by
        rcases hown.2 with ⟨rfl, rfl⟩ | ⟨g, cap, cur, rfl, _, _, hnc, _⟩
        · simp [Builtin.append_, run_underlying ht, sizeOf, typeInfo, hi, Builtin.lenOf, Builtin.firstCells]
        · simp [Builtin.append_, run_underlying ht, sizeOf, typeInfo, hi, Builtin.lenOf, Builtin.firstCells, hnc, storeCells]
      exact ⟨v, w, hrun, by simpa [u16s] using hown, ⟨rfl, rfl, rfl, Nat.le_refl _, fun _ _ _ => rfl⟩, by simp⟩
    | some ad =>
      refine run_append_own (P := P) w base t o.type e i z 1 2 ht hi hz hsize hby hzs (by decide) v n xs hown ad zs.length c (u16s zs) (by simp [u16s]) ?_ (u16s_one zs) (by unfold maxLen; omega) (by omega) hbase
      intro j y hj
      have hj' : j < zs.length := by
        have := (List.getElem?_eq_some_iff.1 hj).1
        simpa [u16s] using this
      obtain ⟨b, off, e2, _, hcell⟩ := hc (by omega)
      cases e2
      exact u16s_cell hcell j y hj
  obtain ⟨v', w', hr, h2, h3, h4⟩ := main
  obtain ⟨A0, c0, rfl⟩ : ∃ A0 c0, v = .slice A0 n c0 := by
    rcases hown.2 with ⟨e1, e2⟩ | ⟨g, cap, cur, e1, _⟩
    · exact ⟨none, 0, by rw [e1, e2]⟩
    · exact ⟨_, _, e1⟩
  rw [← run_append_types ht hu _ hi] at hr
  unfold Oper.wp execOp
  simp only [ho, resolve, invoke, builtin, Sem.run_bind, Sem.run_pure, Result.andThen_ok, List.map_toArray, List.map_cons, List.map_nil, hs, hx, hr]
  exact hK _ _ (h v' w' h2 h3 h4)
end
theorem drew_b {B : Nat} {a b : World} (h : Below B a b) : Below B a b.drew := ⟨h.os, h.tape, h.output, h.size, h.block⟩
theorem made_tab (N : Nat) : (madeCells #[Value.int .u16 0] N).toList = u16s (tab N fun _ => 0) := by
  rw [toList_madeCells_one]
  unfold u16s tab
  apply List.ext_getElem?
  intro i
  by_cases h : i < N
  · simp [h]
  · simp [h]
theorem tab_snoc2 (n : Nat) (f : Nat → Int) : u16s (tab (n + 1) f) = u16s (tab n f) ++ [.int .u16 (f n)] := by
  unfold u16s tab
  rw [List.range_succ]
  simp
theorem takeH {P : Program} {ops : Array Oper} {Q : Exit → Act → World → Prop} {a : Act} {w : World} {md : Region.Mode} {S : World → Prop} {i : Nat} {oi : Oper} {d : Tmp} {v : Value} {fuel : Nat} {listed : Array Bool} (hi : ops[i]? = some oi) (hd : oi.dst = some d)
    (hs : Region.noSelect ops = true) (hf : Region.free md ops listed i = true) (hr : (Region.ready md ops listed).contains i = true)
    (hQ : ∀ c a w, Q (.panic c) (a.put (some d) v) w → Q (.panic c) a w) (hw : Region.wanted oi (yielded ops a.tmps) = true) (hy : ∀ w, S w → (execOp a.eval oi).run P w = .ok (.value v) w) (hS : S w)
    (h : wpAnyH P md ops Q S fuel (listed.setIfInBounds i true) (a.put (some d) v) w) : wpAnyH P md ops Q S (fuel + 1) listed a w :=
  wpAnyH_take hi hs hf hr (by rw [hd]; exact hQ) (.inl ⟨hw, hy⟩) hS (by rw [hd]; exact h)
theorem one_cellC2 (w : World) (x : Value) (T : TypeId) : ∀ (j : Nat) (u : Value), [x][j]? = some u → (w.alloc (.cells #[x] T)).cell? ((⟨w.heap.size, 0, none⟩ : Addr).add j) = some u := by
  intro j u hj
  match j, hj with
  | 0, hj =>
    have : x = u := by simpa using hj
    subst this
    rw [Addr.add_lit]
    exact cell_of_row _ _ _ _ _ _ (heap_alloc_new w _)
  | j + 1, hj => simp at hj
/-- the first k places are told, the others are 0 -/
def upto (f : Nat → Int) (k : Nat) (i : Nat) : Int := if i < k then f i else 0
theorem upto_zero (f : Nat → Int) (N : Nat) : tab N (upto f 0) = tab N fun _ => 0 := tab_ext fun i _ => by unfold upto; rw [if_neg (by omega)]
theorem upto_end (f : Nat → Int) (N : Nat) : tab N (upto f N) = tab N f := tab_ext fun i hi => by unfold upto; rw [if_pos hi]
theorem upto_set (f : Nat → Int) (N k : Nat) : (tab N (upto f k)).set k (f k) = tab N (upto f (k + 1)) := by
  rw [tab_set]
  refine tab_ext fun i _ => ?_
  unfold put upto
  by_cases h : i = k
  · subst h; rw [if_pos rfl, if_pos (by omega)]
  · rw [if_neg h]
    by_cases h2 : i < k
    · rw [if_pos h2, if_pos (by omega)]
    · rw [if_neg h2, if_neg (by omega)]
theorem upto_u {f : Nat → Int} (h : ∀ i, 0 ≤ f i ∧ f i < 65536) (k N : Nat) : inU (tab N (upto f k)) := tab_in fun i _ => by
  unfold upto
  split
  · exact h i
  · omega
set_option maxHeartbeats 2000000 in
set_option maxRecDepth 100000 in
theorem l06Plus_any (v u : Value) (xs ys : List Int) (hn : xs.length ≤ 1048576) (hl : xs.length = ys.length) (w : World) (h : NS w v xs) (h' : NS w u ys) :
    Calls Try.prog 83 #[v, u] w fun e w' => ∃ r, e = .returned r ∧ PO w' w.heap.size r (tab xs.length (plusK2 xs ys)) ∧ Below w.heap.size w w' := by
  obtain ⟨i0, hi, hz0, hz1, hz2⟩ := info_parts info25
  have HL := Lib.hid hl
  have HU := Lib.hid (inU_of h)
  have HU' := Lib.hid (inU_of h')
  have HFU : Hid (∀ i, 0 ≤ plusK2 xs ys i ∧ plusK2 xs ys i < 65536) := Lib.hid (fun i => xorI_u _ _ ((inU_of h).at i).2 ((inU_of h').at i).2)
  obtain ⟨A, c, rfl, _, hc⟩ := h
  obtain ⟨A', c', rfl, _, hc'⟩ := h'
  have HC := Lib.hid hc
  have HC' := Lib.hid hc'
  have hn2 : ys.length ≤ 1048576 := by omega
  clear hl hc hc'
  obtain ⟨B, hB⟩ : ∃ B, B = w.heap.size := ⟨_, rfl⟩
  have E0 := World.ownsRow_made w (e := 39) (size := 1) (base := w.heap.size) #[] 0 (Nat.le_refl _) (Nat.zero_le _) rfl
  rw [← hB]
  have HO0 : Hid ((w.alloc (.cells #[] 39)).ownsRow B 39 1 (.slice (some ⟨w.heap.size, 0, none⟩) 0 0) 0 (u16s (tab 0 (plusK2 xs ys)))) := Lib.hid (by rw [hB]; simpa [u16s, tab] using E0)
  have HB0 : Hid (Below B w (w.alloc (.cells #[] 39))) := Lib.hid (by rw [hB]; exact (Below.refl _ _).alloc (Nat.le_refl _) _)
  have HS0 : Hid (B ≤ (w.alloc (.cells #[] 39)).heap.size) := Lib.hid (by rw [hB, World.size_alloc]; omega)
  have HBB := Lib.hid hB
  clear hB E0
  go_enter Try.func83, Try.ntmps83
  go_wp2_with fail
  go_loopw [6, 5] (fun y o wr => ∃ n : Nat, y = .int .i64 (n : Int) ∧ n ≤ xs.length ∧ Hid (wr.ownsRow B 39 1 o n (u16s (tab n (plusK2 xs ys)))) ∧ Hid (Below B w wr) ∧ Hid (B ≤ wr.heap.size)) (fun y _ _ => xs.length - (intOf y).toNat)
  case atStart => exact ⟨0, rfl, Nat.zero_le _, HO0, HB0, HS0⟩
  case round =>
    clear HO0 HB0 HS0
    obtain ⟨n, rfl, hnl, HO, HBW, HS⟩ := hrel
    obtain ⟨A0, c0, rfl, _, _⟩ := own_form HO.out
    by_cases hlt : n < xs.length
    · have i1 : (n : Int) < (xs.length : Int) := by omega
      obtain ⟨b, off, rfl, hlb, hcell⟩ := HC.out (by omega)
      have hlt2 : n < ys.length := by have := HL.out; omega
      obtain ⟨b', off', rfl, hlb', hcell'⟩ := HC'.out (by omega)
      have i2 : (n : Int) < (ys.length : Int) := by omega
      have q1 : wr.cell? ⟨b, off + n, none⟩ = some (.int .u16 (xs.getD n 0)) := (HBW.out.cell (p := ⟨b, off + n, none⟩) (by rw [HBB.out]; exact hlb)).trans (hcell n hlt)
      have q2 : wr.cell? ⟨b', off' + n, none⟩ = some (.int .u16 (ys.getD n 0)) := (HBW.out.cell (p := ⟨b', off' + n, none⟩) (by rw [HBB.out]; exact hlb')).trans (hcell' n hlt2)
      have r1 := HU.out.at n
      have r2 := HU'.out.at n
      have hf : plusK2 xs ys n = xorI (xs.getD n 0) (ys.getD n 0) := rfl
      obtain ⟨x, hx⟩ : ∃ x, x = xs.getD n 0 := ⟨_, rfl⟩
      obtain ⟨y, hy⟩ : ∃ y, y = ys.getD n 0 := ⟨_, rfl⟩
      rw [← hx] at q1 r1 hf
      rw [← hy] at q2 r2 hf
      obtain ⟨r10, r11⟩ := r1
      obtain ⟨r20, r21⟩ := r2
      have hbx := bits_xor x y r10 r11 r20 r21
      obtain ⟨z, hz⟩ : ∃ z, z = xorI x y := ⟨_, rfl⟩
      rw [← hz] at hf hbx
      have HF := Lib.hid hf
      have HCL := Lib.hid hcell
      have HCL' := Lib.hid hcell'
      have HX := Lib.hid hx
      have HY := Lib.hid hy
      clear hx hy hz hcell hcell' hf
      go_wp2_with fail
      refine wp_region_held_drew (S := fun u => u.cell? ⟨b, off + n, none⟩ = some (.int .u16 x) ∧ u.cell? ⟨b', off' + n, none⟩ = some (.int .u16 y)) (by kernel_rfl) ?hS0 (fun hS => ?_)
      case hS0 => exact ⟨q1, q2⟩
      have HO1 : Hid (wr.drew.ownsRow B 39 1 (.slice A0 n c0) n (u16s (tab n (plusK2 xs ys)))) := Lib.hid (show wr.drew.ownsRow B 39 1 (.slice A0 n c0) n (u16s (tab n (plusK2 xs ys))) from HO.out)
      have HB1 := Lib.hid (drew_b HBW.out)
      have HS1 : Hid (B ≤ wr.drew.heap.size) := Lib.hid HS.out
      clear HO HBW HS
      generalize wr.drew = wd at hS HO1 HB1 HS1 ⊢
      refine takeH (i := 0) (v := ?v0) rfl rfl (by kernel_rfl) (by kernel_rfl) (by kernel_rfl) (fun _ _ _ h => h) rfl ?hy0 hS ?rs0
      case hy0 => (intro wq hq; obtain ⟨hq1, hq2⟩ := hq; go_simp; try (with_reducible rfl))
      simp only [Act.put, List.setIfInBounds_toArray, List.set_cons_zero, List.set_cons_succ]
      refine takeH (i := 1) (v := ?v1) rfl rfl (by kernel_rfl) (by kernel_rfl) (by kernel_rfl) (fun _ _ _ h => h) rfl ?hy1 hS ?rs1
      case hy1 => (intro wq hq; obtain ⟨hq1, hq2⟩ := hq; go_simp; try (with_reducible rfl))
      simp only [Act.put, List.setIfInBounds_toArray, List.set_cons_zero, List.set_cons_succ]
      refine takeH (i := 2) (v := ?v2) rfl rfl (by kernel_rfl) (by kernel_rfl) (by kernel_rfl) (fun _ _ _ h => h) rfl ?hy2 hS ?rs2
      case hy2 => (intro wq hq; obtain ⟨hq1, hq2⟩ := hq; go_simp; try (with_reducible rfl))
      simp only [Act.put, List.setIfInBounds_toArray, List.set_cons_zero, List.set_cons_succ]
      refine takeH (i := 3) (v := ?v3) rfl rfl (by kernel_rfl) (by kernel_rfl) (by kernel_rfl) (fun _ _ _ h => h) rfl ?hy3 hS ?rs3
      case hy3 => (intro wq hq; obtain ⟨hq1, hq2⟩ := hq; go_simp; try (with_reducible rfl))
      simp only [Act.put, List.setIfInBounds_toArray, List.set_cons_zero, List.set_cons_succ]
      refine takeH (i := 4) (v := ?v4) rfl rfl (by kernel_rfl) (by kernel_rfl) (by kernel_rfl) (fun _ _ _ h => h) rfl ?hy4 hS ?rs4
      case hy4 => (intro wq hq; obtain ⟨hq1, hq2⟩ := hq; go_simp; try (with_reducible rfl))
      simp only [Act.put, List.setIfInBounds_toArray, List.set_cons_zero, List.set_cons_succ]
      refine takeH (i := 5) (v := ?v5) rfl rfl (by kernel_rfl) (by kernel_rfl) (by kernel_rfl) (fun _ _ _ h => h) rfl ?hy5 hS ?rs5
      case hy5 => (intro wq hq; obtain ⟨hq1, hq2⟩ := hq; go_simp; try (with_reducible rfl))
      simp only [Act.put, List.setIfInBounds_toArray, List.set_cons_zero, List.set_cons_succ]
      refine takeH (i := 6) (v := ?v6) rfl rfl (by kernel_rfl) (by kernel_rfl) (by kernel_rfl) (fun _ _ _ h => h) rfl ?hy6 hS ?rs6
      case hy6 => (intro wq hq; obtain ⟨hq1, hq2⟩ := hq; go_simp; try (with_reducible rfl))
      simp only [Act.put, List.setIfInBounds_toArray, List.set_cons_zero, List.set_cons_succ]
      refine takeH (i := 7) (v := ?v7) rfl rfl (by kernel_rfl) (by kernel_rfl) (by kernel_rfl) (fun _ _ _ h => h) rfl ?hy7 hS ?rs7
      case hy7 => (intro wq hq; obtain ⟨hq1, hq2⟩ := hq; go_simp; try (with_reducible rfl))
      simp only [Act.put, List.setIfInBounds_toArray, List.set_cons_zero, List.set_cons_succ]
      refine takeH (i := 8) (v := ?v8) rfl rfl (by kernel_rfl) (by kernel_rfl) (by kernel_rfl) (fun _ _ _ h => h) rfl ?hy8 hS ?rs8
      case hy8 => (intro wq hq; obtain ⟨hq1, hq2⟩ := hq; go_simp; try (with_reducible rfl))
      simp only [Act.put, List.setIfInBounds_toArray, List.set_cons_zero, List.set_cons_succ]
      refine takeH (i := 9) (v := ?v9) rfl rfl (by kernel_rfl) (by kernel_rfl) (by kernel_rfl) (fun _ _ _ h => h) rfl ?hy9 hS ?rs9
      case hy9 => (intro wq hq; obtain ⟨hq1, hq2⟩ := hq; go_simp; try (with_reducible rfl))
      simp only [Act.put, List.setIfInBounds_toArray, List.set_cons_zero, List.set_cons_succ]
      refine wpAnyH_ready (rs := [10]) (by kernel_rfl) (by simp) ?_
      refine AllReadyH.cons rfl (fun K hK => ?_) AllReadyH.nil
      go_simp
      refine hK.out _ _ ⟨(((Below.refl _ wd).alloc (Nat.le_refl _) _).cell (block_of_cell hS.1)).trans hS.1, (((Below.refl _ wd).alloc (Nat.le_refl _) _).cell (block_of_cell hS.2)).trans hS.2⟩ (fun hS => ?_)
      clear hK
      try simp only [Act.put, List.setIfInBounds_toArray, List.set_cons_zero, List.set_cons_succ]
      refine wpAnyH_ready (rs := [11]) (by kernel_rfl) (by simp) ?_
      refine AllReadyH.cons rfl (fun K hK => ?_) AllReadyH.nil
      simp only [List.getElem_toArray, List.getElem_cons_zero, List.getElem_cons_succ]
      refine wp_append_own _ _ _ 25 rfl B 39 i0 (.int .u16 0) 1 2 Try.underlying25 hi hz0 hz1 hz2 rfl (by decide) _ n _ rfl (HO1.out.alloc _) ⟨wd.heap.size, 0, none⟩ 1 1 [.int .u16 z] rfl rfl ?c1 ?c2 ?c3 ?c4 ?c5 ?_
      case c1 => exact one_cellC2 _ _ _
      case c2 => simp [Value.oneCell']
      case c3 => unfold maxLen; omega
      case c4 => omega
      case c5 => rw [World.size_alloc]; have := HS1.out; omega
      intro s' wy hown hgrow _
      have hown2 : wy.ownsRow B 39 1 s' (n + 1) (u16s (tab (n + 1) (plusK2 xs ys))) := by
        rw [tab_snoc2, HF.out]; exact hown
      have hbg := (HB1.out.alloc HS1.out _).grown hgrow (by rw [World.size_alloc]; have := HS1.out; omega) (fun x hx => (HO1.out.lt x hx).1)
      have HB2 := Lib.hid hbg
      have HS2 := Lib.hid (Nat.le_trans (show B ≤ (wd.alloc (.cells #[.int .u16 z] 39)).heap.size by rw [World.size_alloc]; have := HS1.out; omega) hgrow.size)
      have HQ2 := Lib.hid hown2
      refine hK.out _ _ ⟨by rw [HX.out]; exact (hbg.cell (p := ⟨b, off + n, none⟩) (by rw [HBB.out]; exact hlb)).trans (HCL.out n hlt), by rw [HY.out]; exact (hbg.cell (p := ⟨b', off' + n, none⟩) (by rw [HBB.out]; exact hlb')).trans (HCL'.out n hlt2)⟩ (fun hS => ?_)
      clear hK hown hown2 hgrow HO1 HB1 HS1 hbg
      try simp only [Act.put, List.setIfInBounds_toArray, List.set_cons_zero, List.set_cons_succ]
      refine takeH (i := 12) (v := ?v12) rfl rfl (by kernel_rfl) (by kernel_rfl) (by kernel_rfl) (fun _ _ _ h => h) rfl ?hy12 hS ?rs12
      case hy12 => (intro wq hq; obtain ⟨hq1, hq2⟩ := hq; go_simp; try (with_reducible rfl))
      simp only [Act.put, List.setIfInBounds_toArray, List.set_cons_zero, List.set_cons_succ]
      refine wpAnyH_done (by kernel_rfl) ?_ _
      go_wp2_with fail
      exact ⟨⟨n + 1, by go_num, by omega, HQ2, HB2, HS2⟩, by simp [intOf]; omega⟩
    · obtain rfl : n = xs.length := by omega
      have T1 : decide ((xs.length : Int) < (xs.length : Int)) = false := by simp
      have HPO := Lib.hid (PO.of_own HO.out (tab_len _ _) (tab_in fun i _ => HFU.out i))
      go_wp2_with fail
      go_ret
      exact ⟨_, rfl, HPO.out, HBW.out⟩
set_option maxHeartbeats 2000000 in
set_option maxRecDepth 100000 in
theorem pairwise_any (v u : Value) (xs ys : List Int) (hn : xs.length ≤ 1048576) (hn2 : ys.length ≤ 1048576) (hl : xs.length ≤ ys.length) (gf : Nat) (hg : ∀ args w, (callFunc gf args).run Try.prog w = .ok (.enter gf args) w) (F : Int → Int → Int)
    (hF : ∀ (x y : Int) (W : World), 0 ≤ x → x < 65536 → 0 ≤ y → y < 65536 → Calls Try.prog gf #[.int .u16 x, .int .u16 y] W fun e W' => e = .returned (.int .u16 (F x y)) ∧ W' = W)
    (hFu : ∀ x y : Int, x < 65536 → y < 65536 → 0 ≤ F x y ∧ F x y < 65536) (w : World) (h : NS w v xs) (h' : NS w u ys) :
    Calls Try.prog 133 #[v, u, .func (.func gf) #[] #[]] w fun e w' => ∃ r, e = .returned r ∧ PO w' w.heap.size r (tab xs.length fun i => F (xs.getD i 0) (ys.getD i 0)) ∧ Below w.heap.size w w' := by
  obtain ⟨i0, hi, hz0, hz1, hz2⟩ := info_parts info25
  have HFF := Lib.hid hF
  have HL := Lib.hid hl
  have HU := Lib.hid (inU_of h)
  have HU' := Lib.hid (inU_of h')
  obtain ⟨f, hf⟩ : ∃ f : Nat → Int, f = fun i => F (xs.getD i 0) (ys.getD i 0) := ⟨_, rfl⟩
  have HFE : Hid (∀ i, f i = F (xs.getD i 0) (ys.getD i 0)) := Lib.hid (fun i => by rw [hf])
  have HFU : Hid (∀ i, 0 ≤ f i ∧ f i < 65536) := Lib.hid (fun i => by rw [hf]; exact hFu _ _ ((inU_of h).at i).2 ((inU_of h').at i).2)
  rw [← hf]
  obtain ⟨A, c, rfl, _, hc⟩ := h
  obtain ⟨A', c', rfl, _, hc'⟩ := h'
  have HC := Lib.hid hc
  have HC' := Lib.hid hc'
  obtain ⟨N, hN⟩ : ∃ N, N = xs.length := ⟨_, rfl⟩
  rw [← hN] at hn ⊢
  have HNN := Lib.hid hN
  clear hl hc hc' hf hFu hF hN
  go_enter Try.func133, Try.ntmps133
  go_wp2_with (at_make; refine wpList_make_full _ rfl _ _ 25 rfl w.heap.size 39 i0 (.int .u16 0) 1 Try.underlying25 hi hz0 hz1 _ _ _ _ N rfl rfl rfl rfl (by rw [hz2]; omega) (by unfold maxLen; omega) (Nat.le_refl _) ?_)
  intro w1 hown hgrow
  have hb1 : Below w.heap.size w w1 := (Below.refl _ w).grown hgrow (Nat.le_refl _) (fun k hk => by cases hk)
  obtain ⟨g, hgg⟩ : ∃ g, g = w.heap.size := ⟨_, rfl⟩
  rw [← hgg] at hown hb1 ⊢
  rw [made_tab, ← upto_zero f N] at hown
  have HRW := Lib.hid (RW.of_own hown)
  have HB1 := Lib.hid hb1
  have HG := Lib.hid hgg
  clear hown hgrow hb1 hgg
  go_wp2_with fail
  go_loopw [15] (fun y wr => ∃ k : Nat, y = .int .i64 (k : Int) ∧ k ≤ N ∧ Hid (RW wr g (tab N (upto f k))) ∧ Hid (Below g w wr)) (fun y _ => N - (intOf y).toNat)
  case atStart => exact ⟨0, rfl, Nat.zero_le _, HRW, HB1⟩
  case round =>
    clear HRW HB1
    obtain ⟨k, rfl, hk, HR, HB⟩ := hrel
    by_cases hlt : k < N
    · have hltx : k < xs.length := by rw [← HNN.out]; exact hlt
      have hlt2 : k < ys.length := by have := HL.out; omega
      obtain ⟨b, off, rfl, hlb, hcell⟩ := HC.out (by omega)
      obtain ⟨b', off', rfl, hlb', hcell'⟩ := HC'.out (by omega)
      have i1 : (k : Int) < (N : Int) := by omega
      have i2 : (k : Int) < (ys.length : Int) := by omega
      have q1 : wr.cell? ⟨b, off + k, none⟩ = some (.int .u16 (xs.getD k 0)) := (HB.out.cell (p := ⟨b, off + k, none⟩) (by rw [HG.out]; exact hlb)).trans (hcell k hltx)
      have q2 : wr.cell? ⟨b', off' + k, none⟩ = some (.int .u16 (ys.getD k 0)) := (HB.out.cell (p := ⟨b', off' + k, none⟩) (by rw [HG.out]; exact hlb')).trans (hcell' k hlt2)
      have q3 := HR.out.tabcell2 k (by omega)
      have q4 := HR.out.free k
      have r1 := HU.out.at k
      have r2 := HU'.out.at k
      have hfe := HFE.out k
      have hset := HR.out.set k (f k)
      rw [upto_set] at hset
      obtain ⟨x, hx⟩ : ∃ x, x = xs.getD k 0 := ⟨_, rfl⟩
      obtain ⟨y, hy⟩ : ∃ y, y = ys.getD k 0 := ⟨_, rfl⟩
      obtain ⟨z0, hz0'⟩ : ∃ z, z = (tab N (upto f k)).getD k 0 := ⟨_, rfl⟩
      rw [← hx] at q1 r1 hfe
      rw [← hy] at q2 r2 hfe
      rw [← hz0'] at q3
      obtain ⟨z, hz⟩ : ∃ z, z = f k := ⟨_, rfl⟩
      rw [← hz] at hset hfe
      obtain ⟨r10, r11⟩ := r1
      obtain ⟨r20, r21⟩ := r2
      have HCA := Lib.hid (HFF.out x y wr r10 r11 r20 r21)
      have HZE := Lib.hid hfe
      have HSET := Lib.hid hset
      have HB3 := Lib.hid (HB.out.setCell (p := ⟨g, k, none⟩) (Nat.le_refl _) (.int .u16 z))
      have HCL := Lib.hid hcell
      have HCL' := Lib.hid hcell'
      clear hset hx hy hz hz0' hcell hcell' hfe hltx hlt2
      go_wp2_with fail
      refine HCA.out.mono ?_
      rintro e w' ⟨rfl, rfl⟩
      rw [← HZE.out]
      go_wp2_with fail
      go_roundw
      case rel => exact ⟨k + 1, by go_num, by omega, HSET, HB3⟩
      case measure => simp [intOf]; omega
    · obtain rfl : k = N := by omega
      have T1 : decide ((k : Int) < (k : Int)) = false := by simp
      have hr := HR.out
      rw [upto_end] at hr
      have hpo := hr.po (tab_in fun i _ => HFU.out i) (Nat.le_of_eq HG.out.symm) (by rw [tab_len]; unfold maxLen; omega)
      rw [tab_len] at hpo
      have HPO := Lib.hid hpo
      clear hr hpo
      go_wp2_with fail
      go_ret
      exact ⟨_, rfl, HPO.out, by rw [← HG.out]; exact HB.out⟩
set_option maxHeartbeats 1000000 in
theorem wplus_any (v u : Value) (xs ys : List Int) (hn : xs.length ≤ 1048576) (hl : xs.length = ys.length) (w : World) (h : NS w v xs) (h' : NS w u ys) :
    Calls Try.prog 84 #[v, u] w fun e w' => ∃ r, e = .returned r ∧ PO w' w.heap.size r (wplus xs ys) ∧ Below w.heap.size w w' := by
  have hg : ∀ args w, (callFunc 126 args).run Try.prog w = .ok (.enter 126 args) w := enters_of Try.func126 (by kernel_rfl) rfl
  have hp := pairwise_any v u xs ys hn (by omega) (by omega) 126 hg xorI (fun x y W a b c d => plus_v x y a b c d W) (fun x y a b => xorI_u x y a b) w h h'
  rw [show (tab xs.length fun i => xorI (xs.getD i 0) (ys.getD i 0)) = wplus xs ys from rfl] at hp
  have HP := Lib.hid hp
  obtain ⟨A, c, rfl⟩ := h.form
  obtain ⟨A', c', rfl⟩ := h'.form
  clear hp hg h h' hl
  go_enter Try.func84, Try.ntmps84
  go_wp2_with fail
  refine HP.out.mono ?_
  rintro e w1 ⟨r, rfl, hr, hb⟩
  have HR := Lib.hid hr
  have HB := Lib.hid hb
  clear hr hb
  obtain ⟨A1, c1, rfl, _⟩ := HR.out.form
  go_wp2_with fail
  go_ret
  exact ⟨_, rfl, HR.out, HB.out⟩
theorem po_nil_alloc (w : World) : PO (w.alloc (.cells #[] 39)) w.heap.size (.slice (some ⟨w.heap.size, 0, none⟩) 0 0) [] := PO.nil _ _ _ _ (Nat.zero_le _) (fun e => by cases e)
set_option maxHeartbeats 1000000 in
theorem spec_PlusWord (v u : Value) (xs ys : List Int) (hn : xs.length ≤ 1048576) (hn2 : ys.length ≤ 1048576) (w : World) (h : NS w v xs) (h' : NS w u ys) :
    Calls Try.prog 33 #[v, u] w fun e w' => ∃ r, e = .returned (.tuple #[r, .int .i64 (twoC xs ys)]) ∧ PO w' w.heap.size r (plusWA xs ys) ∧ Below w.heap.size w w' := by
  have HN := Lib.hid h
  have HN' := Lib.hid h'
  obtain ⟨A, c, rfl⟩ := h.form
  obtain ⟨A', c', rfl⟩ := h'.form
  obtain ⟨cd, hcd⟩ : ∃ cd, cd = twoC xs ys := ⟨_, rfl⟩
  rw [← hcd]
  by_cases h0 : cd = 0
  · have h1 := twoC_zero (hcd ▸ h0)
    rw [plusWA_yes (hcd ▸ h0)]
    have HL := Lib.hid h1
    have HCD := Lib.hid hcd
    subst h0
    clear hcd h1 h h'
    go_enter Try.func33, Try.ntmps33
    go_wp2_with fail
    refine (l06Two_any A A' c c' xs ys hn hn2 _).mono ?_
    rintro e w' ⟨rfl, rfl⟩
    rw [← HCD.out]
    go_wp2_with fail
    refine (l06Plus_any _ _ xs ys hn HL.out.1 _ HN.out HN'.out).mono ?_
    rintro e w1 ⟨r, rfl, hr, hb⟩
    have HR := Lib.hid hr
    have HB := Lib.hid hb
    clear hr hb
    obtain ⟨A1, c1, rfl, _⟩ := HR.out.form
    go_wp2_with fail
    go_ret2
    exact ⟨_, rfl, HR.out, HB.out⟩
  · rw [plusWA_no (hcd ▸ h0)]
    have HCD := Lib.hid hcd
    have T1 : (cd != 0) = true := by rw [bne_iff_ne]; exact h0
    clear hcd h0 h h'
    go_enter Try.func33, Try.ntmps33
    go_wp2_with fail
    refine (l06Two_any A A' c c' xs ys hn hn2 _).mono ?_
    rintro e w' ⟨rfl, rfl⟩
    rw [← HCD.out]
    go_wp2_with fail
    go_ret2
    exact ⟨_, rfl, po_nil_alloc _, (Below.refl _ _).alloc (Nat.le_refl _) _⟩
set_option maxHeartbeats 1000000 in
theorem impl_PlusWord (v u : Value) (xs ys : List Int) (hn : xs.length ≤ 1048576) (hn2 : ys.length ≤ 1048576) (w : World) (h : NS w v xs) (h' : NS w u ys) :
    Calls Try.prog 34 #[v, u] w fun e w' => ∃ r, e = .returned (.tuple #[r, .int .i64 (twoC xs ys)]) ∧ PO w' w.heap.size r (plusWA xs ys) ∧ Below w.heap.size w w' := by
  have HC2 := Lib.hid (check2L v u xs ys hn hn2 w h h')
  have HN := Lib.hid h
  have HN' := Lib.hid h'
  obtain ⟨A, c, rfl⟩ := h.form
  obtain ⟨A', c', rfl⟩ := h'.form
  obtain ⟨cd, hcd⟩ : ∃ cd, cd = twoC xs ys := ⟨_, rfl⟩
  rw [← hcd]
  by_cases h0 : cd = 0
  · have h1 := twoC_zero (hcd ▸ h0)
    rw [plusWA_yes (hcd ▸ h0)]
    have HL := Lib.hid h1
    have HCD := Lib.hid hcd
    subst h0
    clear hcd h1 h h'
    go_enter Try.func34, Try.ntmps34
    go_wp2_with fail
    refine HC2.out.mono ?_
    rintro e w1 ⟨rfl, hb⟩
    rw [← HCD.out]
    have HB1 := Lib.hid hb
    clear hb
    go_wp2_with fail
    refine (wplus_any _ _ xs ys hn HL.out.1 _ (HN.out.below HB1.out) (HN'.out.below HB1.out)).mono ?_
    rintro e w2 ⟨r, rfl, hr, hb⟩
    have HR := Lib.hid (hr.lower HB1.out.size)
    have HB := Lib.hid (bchain HB1.out hb)
    clear hr hb
    obtain ⟨A1, c1, rfl, _⟩ := HR.out.form
    go_wp2_with fail
    go_ret2
    exact ⟨_, rfl, HR.out, HB.out⟩
  · rw [plusWA_no (hcd ▸ h0)]
    have HCD := Lib.hid hcd
    have T1 : (cd != 0) = true := by rw [bne_iff_ne]; exact h0
    clear hcd h0 h h'
    go_enter Try.func34, Try.ntmps34
    go_wp2_with fail
    refine HC2.out.mono ?_
    rintro e w1 ⟨rfl, hb⟩
    rw [← HCD.out]
    have HB1 := Lib.hid hb
    clear hb
    go_wp2_with fail
    go_ret2
    exact ⟨_, rfl, PO.nil0 _ _, HB1.out⟩
end Go.Proofs.Ythhjhfkcgokffaa
