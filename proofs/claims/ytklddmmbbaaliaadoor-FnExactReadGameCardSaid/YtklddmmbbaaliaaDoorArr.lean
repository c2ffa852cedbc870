/-
  Arrays by value: compared, indexed.
-/
import Derived.Test.YtklddmmbbaaliaaDoorCells
import Derived.DeepKeys
import Derived.Laws.CopyOwn
import Derived.Deep.WholeRow
import Derived.Deep.RegionHeld
namespace Go.Proofs.YtklddmmbbaaliaaDoor
set_option linter.unusedVariables false
set_option linter.unusedSimpArgs false
open Go.ChangeShapes Go.WideShapes Go.ChangeAt Go.RowKit
theorem bnext {B : Nat} {w a b : World} (h : Below B w a) (hn : Below a.heap.size a b) (hB : B ≤ a.heap.size) : Below B w b := h.trans (hn.mono hB)
theorem bdrew {B : Nat} {w a : World} (h : Below B w a) (m : Nat) : Below B w (a.drewN m) := ⟨h.os, h.tape, h.output, h.size, h.block⟩
/-- the first n are new -/
def mix (n : Nat) (new old : Nat → Int) : Nat → Int := fun s => if s < n then new s else old s
theorem mix_zero (new old : Nat → Int) : mix 0 new old = old := by funext s; simp [mix]
theorem mix_step (n : Nat) (new old : Nat → Int) (v : Int) (hv : v = new n) : upd (mix n new old) n v = mix (n + 1) new old := by
  funext s
  unfold upd mix
  by_cases h : s = n
  · subst h; rw [if_pos rfl, if_pos (by omega), hv]
  · rw [if_neg h]
    by_cases h2 : s < n
    · rw [if_pos h2, if_pos (by omega)]
    · rw [if_neg h2, if_neg (by omega)]
theorem mix_row (n m : Nat) (new old h : Nat → Int) (hh : ∀ j, j < m → h j = new (n + j)) : puts (mix n new old) n m h = mix (n + m) new old := by
  funext s
  unfold puts mix
  by_cases h1 : n ≤ s ∧ s < n + m
  · rw [if_pos h1, if_pos (by omega), hh _ (by omega), show n + (s - n) = s from by omega]
  · rw [if_neg h1]
    by_cases h2 : s < n
    · rw [if_pos h2, if_pos (by omega)]
    · rw [if_neg h2, if_neg (by omega)]
theorem mix_at (n : Nat) (new old : Nat → Int) : mix n new old n = old n := by simp [mix]
theorem mix_old {n s : Nat} (new old : Nat → Int) (h : n ≤ s) : mix n new old s = old s := by unfold mix; rw [if_neg (by omega)]
theorem mix_new {n s : Nat} (new old : Nat → Int) (h : s < n) : mix n new old s = new s := by unfold mix; rw [if_pos h]
section
variable {P : Program} {w : World} {t e r : TypeId}
theorem plainKey_int {k : IntKind} (he : P.underlying e = some (.int k)) : P.plainKey e = true := by simp [Program.plainKey, he]
theorem items_eq (he : P.underlying e = some (.int .u16)) (f g : Nat → Int) (n d : Nat) : ∀ is : List Nat, (∀ i ∈ is, i < n) → (Op.eqItems (d + 1) e 1 (TL n f).toArray (TL n g).toArray is).run P w = .ok (is.all fun i => f i == g i) w
  | [], _ => by simp [Op.eqItems]
  | i :: is, h => by
    have hi : i < n := h i (by simp)
    have h1 := run_part_plain w (plainKey_int he) (xs := (TL n f).toArray) (off := i) (by rw [List.getElem?_toArray]; exact TL_at n f i hi)
    have h2 := run_part_plain w (plainKey_int he) (xs := (TL n g).toArray) (off := i) (by rw [List.getElem?_toArray]; exact TL_at n g i hi)
    have h3 := run_equalIn_int (P := P) w d e .u16 .u16 (f i) (g i) he
    have ih := items_eq he f g n d is (fun j hj => h j (by simp [hj]))
    rw [Op.eqItems]
    simp only [Nat.mul_one, Sem.run_bind, h1, h2, h3, Result.andThen_ok, List.all_cons]
    cases hb : (f i == g i)
    · simp
    · simpa using ih
theorem cellsOf_info {c : Nat} (h : (P.info? e).map (·.size) = some c) : P.cellsOf e = c ∧ ∃ i, P.info? e = some i := by
  cases hq : P.info? e with
  | none => simp [hq] at h
  | some i => simp [hq] at h; simp [Program.cellsOf, hq, h]
theorem equal_vec (n d : Nat) (ht : P.underlying t = some (.array n e)) (he : P.underlying e = some (.int .u16)) (hs : (P.info? e).map (·.size) = some 1) (f g : Nat → Int) :
    (Op.equalIn (d + 1 + 1) t (.agg (TL n f).toArray) (.agg (TL n g).toArray)).run P w = .ok ((List.range n).all fun i => f i == g i) w := by
  obtain ⟨hc, i, hi⟩ := cellsOf_info hs
  rw [run_equalIn_array w (d + 1) _ _ ht hi, hc]
  exact items_eq he f g n d _ (fun i hi => List.mem_range.1 hi)
theorem all_dec (n : Nat) (f g : Nat → Int) : ((List.range n).all fun i => f i == g i) = decide (∀ i, i < n → f i = g i) := by
  rw [Bool.eq_iff_iff]
  simp [List.all_eq_true]
theorem TL_extract (n m o : Nat) (f : Nat → Int) (h : o + m ≤ n) : (TL n f).toArray.extract o (o + m) = (TL m fun k => f (o + k)).toArray := by
  apply Array.ext'
  rw [Array.toList_extract]
  apply List.ext_getElem?
  intro i
  simp only [List.extract, Nat.add_sub_cancel_left, List.getElem?_take, List.getElem?_drop]
  by_cases hi : i < m
  · rw [if_pos hi, TL_at n f (o + i) (by omega), TL_at m _ i hi]
  · rw [if_neg hi, List.getElem?_eq_none (by rw [TL_len]; omega)]
theorem part_row (ht : P.underlying r = some (.array 6 e)) (hr : (P.info? r).map (·.size) = some 6) (n o : Nat) (f : Nat → Int) (h : o + 6 ≤ n) :
    (part r (TL n f).toArray o).run P w = .ok (.agg (TL 6 fun k => f (o + k)).toArray) w := by
  cases hq : P.info? r with
  | none => simp [hq] at hr
  | some i =>
    have hs : i.size = 6 := by simpa [hq] using hr
    have e2 : List.take 6 (List.drop o (TL n f)) = TL 6 fun k => f (o + k) := by
      have := congrArg Array.toList (TL_extract n 6 o f h)
      simpa [List.extract] using this
    simp [part, isAgg, run_underlying ht, sizeOf, typeInfo, hq, hs, e2]
theorem index_row (ht : P.underlying t = some (.array 6 r)) (hr : P.underlying r = some (.array 6 e)) (hs : (P.info? r).map (·.size) = some 6) (f : Nat → Int) (i : Nat) (hi : i < 6) :
    (Instr.index t (.agg (TL 36 f).toArray) (.int .i64 i)).run P w = .ok (.agg (TL 6 fun k => f (i * 6 + k)).toArray) w := by
  have hp := part_row (w := w) hr hs 36 (i * 6) f (by omega)
  cases hq : P.info? r with
  | none => simp [hq] at hs
  | some j =>
    have hj : j.size = 6 := by simpa [hq] using hs
    have e1 : (0 : Int) ≤ i ∧ (i : Int) < (6 : Nat) := by omega
    simp [Instr.index, asIntOf, run_underlying ht, sizeOf, typeInfo, hq, hj, hp, hi]
theorem index_cell (ht : P.underlying t = some (.array 6 e)) (he : P.underlying e = some (.int .u16)) (hs : (P.info? e).map (·.size) = some 1) (f : Nat → Int) (i : Nat) (hi : i < 6) :
    (Instr.index t (.agg (TL 6 f).toArray) (.int .i64 i)).run P w = .ok (.int .u16 (f i)) w := by
  have hp := run_part_plain w (plainKey_int he) (xs := (TL 6 f).toArray) (off := i) (by rw [List.getElem?_toArray]; exact TL_at 6 f i hi)
  cases hq : P.info? e with
  | none => simp [hq] at hs
  | some j =>
    have hj : j.size = 1 := by simpa [hq] using hs
    simp [Instr.index, asIntOf, run_underlying ht, sizeOf, typeInfo, hq, hj, hp, hi]
variable {ops : Array Oper} {rest : List Oper} {o : Oper} {a : Act} {Q : Exit → Act → World → Prop}
theorem wpList_index_row (hgd : o.guard = none) (ty : TypeId) (x y : Operand) (ho : o.op = .index ty x y) (f : Nat → Int) (i : Nat) (hx : a.eval x = .agg (TL 36 f).toArray) (hy : a.eval y = .int .i64 i) (hi : i < 6)
    (ht : P.underlying ty = some (.array 6 r)) (hr : P.underlying r = some (.array 6 e)) (hs : (P.info? r).map (·.size) = some 6)
    (h : wpList P ops Q rest (a.put o.dst (.agg (TL 6 fun k => f (i * 6 + k)).toArray)) w) : wpList P ops Q (o :: rest) a w :=
  wpList_plain hgd fun K hK => by
    unfold Oper.wp execOp
    simp only [ho, hx, hy, Sem.run_bind, Sem.run_pure, Result.andThen_ok, index_row ht hr hs f i hi]
    exact hK _ _ h
theorem wpList_index_cell (hgd : o.guard = none) (ty : TypeId) (x y : Operand) (ho : o.op = .index ty x y) (f : Nat → Int) (i : Nat) (hx : a.eval x = .agg (TL 6 f).toArray) (hy : a.eval y = .int .i64 i) (hi : i < 6)
    (ht : P.underlying ty = some (.array 6 e)) (he : P.underlying e = some (.int .u16)) (hs : (P.info? e).map (·.size) = some 1)
    (h : wpList P ops Q rest (a.put o.dst (.int .u16 (f i))) w) : wpList P ops Q (o :: rest) a w :=
  wpList_plain hgd fun K hK => by
    unfold Oper.wp execOp
    simp only [ho, hx, hy, Sem.run_bind, Sem.run_pure, Result.andThen_ok, index_cell ht he hs f i hi]
    exact hK _ _ h
theorem wpList_eql_agg (hgd : o.guard = none) (op : BinOp) (ty ty' : TypeId) (x y : Operand) (ho : o.op = .binOp op ty x y ty') (hop : op = .eql ∨ op = .neq) (b : Bool) (xs ys : Array Value) (hx : a.eval x = .agg xs) (hy : a.eval y = .agg ys)
    (hG : P.eqGuardType P.depth ty = false) (hr : (Op.equal ty (.agg xs) (.agg ys)).run P w = .ok b w)
    (h : wpList P ops Q rest (a.put o.dst (.bool (if op = .eql then b else !b))) w) : wpList P ops Q (o :: rest) a w :=
  wpList_plain hgd fun K hK => by
    unfold Oper.wp execOp
    rcases hop with rfl | rfl
    · have : (do eqGuard .eql ty x y (.agg xs) (.agg ys); binOp .eql ty (.agg xs) (.agg ys) : Sem Value).run P w = .ok (.bool b) w := by
        have hp : ∀ w : World, Sem.run P (Sem.program Sem.pure) w = .ok P w := fun _ => rfl
        simp [eqGuard, binOp, hr, Go.program, hp, hG]
      simp only [ho, hx, hy, Sem.run_bind, Sem.run_pure, Result.andThen_ok] at this ⊢
      rw [this]
      exact hK _ _ h
    · have : (do eqGuard .neq ty x y (.agg xs) (.agg ys); binOp .neq ty (.agg xs) (.agg ys) : Sem Value).run P w = .ok (.bool !b) w := by
        have hp : ∀ w : World, Sem.run P (Sem.program Sem.pure) w = .ok P w := fun _ => rfl
        simp [eqGuard, binOp, hr, Go.program, hp, hG]
      simp only [ho, hx, hy, Sem.run_bind, Sem.run_pure, Result.andThen_ok] at this ⊢
      rw [this]
      exact hK _ _ h
theorem wpList_build0 (hgd : o.guard = none) (ty : TypeId) (ho : o.op = .build ty #[]) (cs : Array Value) (hb : P.built ty [] = some cs)
    (h : wpList P ops Q rest (a.put o.dst (.agg cs)) w) : wpList P ops Q (o :: rest) a w := by
  refine wpList_build hgd ty #[] ho ?_ ?_
  · simp [hb]
  · simpa [hb] using h
theorem wpList_build2 (hgd : o.guard = none) (ty : TypeId) (x y : Operand) (ho : o.op = .build ty #[(0, x), (1, y)]) (r c : Int) (hx : a.eval x = .int .i8 r) (hy : a.eval y = .int .i8 c)
    (hb : ∀ r c : Int, P.built ty [(0, .int .i8 r), (1, .int .i8 c)] = some (CL r c fun _ => 0).toArray)
    (h : wpList P ops Q rest (a.put o.dst (MV r c fun _ => 0)) w) : wpList P ops Q (o :: rest) a w := by
  refine wpList_build hgd ty #[(0, x), (1, y)] ho ?_ ?_
  · simp [hx, hy, hb]
  · simpa [hx, hy, hb] using h
theorem still_build2 {Q : Act → Prop} (hgd : o.guard = none) (ty : TypeId) (x y : Operand) (ho : o.op = .build ty #[(0, x), (1, y)]) (r c : Int) (hx : a.eval x = .int .i8 r) (hy : a.eval y = .int .i8 c)
    (hb : ∀ r c : Int, P.built ty [(0, .int .i8 r), (1, .int .i8 c)] = some (CL r c fun _ => 0).toArray)
    (h : wpStill P ops w Q rest (a.put o.dst (MV r c fun _ => 0))) : wpStill P ops w Q (o :: rest) a := by
  refine wpStill_step (fun K hK => ?_)
  rw [if_pos (by simp [Region.wanted, hgd])]
  unfold Oper.still execOp
  have hr := run_build (P := P) w ty #[(0, .int .i8 r), (1, .int .i8 c)] _ (hb r c)
  simp only [ho, List.map_toArray, List.map_cons, List.map_nil, hx, hy, Sem.run_bind, hr, Result.andThen_ok, Sem.run_pure]
  exact ⟨rfl, hK _ h⟩
theorem exec_build2 (ty : TypeId) (x y : Operand) (ho : o.op = .build ty #[(0, x), (1, y)]) (r c : Int) (hx : a.eval x = .int .i8 r) (hy : a.eval y = .int .i8 c)
    (hb : ∀ r c : Int, P.built ty [(0, .int .i8 r), (1, .int .i8 c)] = some (CL r c fun _ => 0).toArray) (w : World) : (execOp a.eval o).run P w = .ok (.value (MV r c fun _ => 0)) w := by
  unfold execOp
  have hr := run_build (P := P) w ty #[(0, .int .i8 r), (1, .int .i8 c)] _ (hb r c)
  simp only [ho, List.map_toArray, List.map_cons, List.map_nil, hx, hy, Sem.run_bind, hr, Result.andThen_ok, Sem.run_pure]
theorem takeH {md : Region.Mode} {S : World → Prop} {i : Nat} {oi : Oper} {d : Tmp} {v : Value} {fuel : Nat} {listed : Array Bool} (hi : ops[i]? = some oi) (hd : oi.dst = some d)
    (hs : Region.noSelect ops = true) (hf : Region.free md ops listed i = true) (hr : (Region.ready md ops listed).contains i = true)
    (hQ : ∀ c a w, Q (.panic c) (a.put (some d) v) w → Q (.panic c) a w) (hw : Region.wanted oi (yielded ops a.tmps) = true) (hy : ∀ w, S w → (execOp a.eval oi).run P w = .ok (.value v) w) (hS : S w)
    (h : wpAnyH P md ops Q S fuel (listed.setIfInBounds i true) (a.put (some d) v) w) : wpAnyH P md ops Q S (fuel + 1) listed a w :=
  wpAnyH_take hi hs hf hr (by rw [hd]; exact hQ) (.inl ⟨hw, hy⟩) hS (by rw [hd]; exact h)
theorem results_cell_tmp2 {fn : Func} {p q : Tmp} {ty : TypeId} (h : fn.results = #[.cell p ty, .tmp q]) (tmps : Array Value) (w : World) (g : Nat) (t : TypeId) (cs : Array Value) (fr : Nat × Nat) (d : TypeDesc) (v : Value)
    (hp : tmps.getD p undef = .pointer (some ⟨g, 0, none⟩)) (hq : tmps.getD q undef = v) (hg : w.heap[g]? = some (.cells cs t fr))
    (hu : P.underlying ty = some d) (hd : (match d with | .struct _ | .array _ _ => true | _ => false) = true) (hi : (P.info? ty).map (·.size) = some cs.size) :
    (results fn tmps).run P w = .ok (.tuple #[.agg cs, v]) w := by
  have hp' : tmps[p]?.getD undef = .pointer (some ⟨g, 0, none⟩) := by simpa using hp
  have hq' : tmps[q]?.getD undef = v := by simpa using hq
  simp [results, h, hp', hq', asAddr, run_loadVar_row w g t ty cs fr d hg hu hd hi]
theorem wpList_store_fresh {t : TypeId} {old cells : Array Value} (hgd : o.guard = none) (ty : TypeId) (x y : Operand) (ho : o.op = .store ty x y)
    (hx : a.eval x = .pointer (some ⟨w.heap.size, 0, none⟩)) (hy : a.eval y = .agg cells) (hi : (P.info? ty).map (·.size) = some cells.size) (hold : old.size = cells.size) (h1 : cells.all (·.oneCell') = true)
    (h : wpList P ops Q rest (a.put o.dst undef) (w.alloc (.cells cells t))) : wpList P ops Q (o :: rest) a (w.alloc (.cells old t)) := by
  refine wpList_store_row hgd ty x y ho w.heap.size cells hx hy t old (heap_alloc_last w _) hi hold h1 ?_
  rw [World.setRow_alloc_new]; exact h
end
end Go.Proofs.YtklddmmbbaaliaaDoor
