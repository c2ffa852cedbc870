/-
  Arrays by value, more: loads in regions that draw their order, rows of a matrix.
-/
import Derived.Test.YtjbaeomjinnlhaaScale
namespace Go.Proofs.Ytjbaeomjinnlhaa
set_option linter.unusedVariables false
set_option linter.unusedSimpArgs false
open Go.ChangeShapes Go.WideShapes Go.ChangeAt Go.RowKit
section
variable {P : Program} {w : World} {o : Oper} {a : Act}
theorem exec_load_mid (ty : TypeId) (x : Operand) (ho : o.op = .load ty x) (b off : Nat) (hx : a.eval x = .pointer (some ⟨b, off, none⟩)) (cs : List Value) (d : TypeDesc) (hc : w.rangeAt b off cs)
    (hu : P.underlying ty = some d) (hd : d.isRow = true) (hi : (P.info? ty).map (·.size) = some cs.length) : (execOp a.eval o).run P w = .ok (.value (.agg cs.toArray)) w := by
  unfold execOp
  simp only [ho, hx, Instr.loadAt, Instr.sureAddr, Sem.run_bind, Sem.run_pure, Result.andThen_ok, run_loadVar_mid w b off ty cs d hc hu hd hi]
end
theorem wpList_load_row_w {P : Program} {w : World} {o : Oper} {a : Act} {ops : Array Oper} {rest : List Oper} {Q : Exit → Act → World → Prop} (hgd : Region.wanted o (yielded ops a.tmps) = true) (ty : TypeId) (x : Operand) (ho : o.op = .load ty x)
    (g : Nat) (hx : a.eval x = .pointer (some ⟨g, 0, none⟩)) (t : TypeId) (cs : Array Value) (fr : Nat × Nat) (d : TypeDesc) (hg : w.heap[g]? = some (.cells cs t fr))
    (hu : P.underlying ty = some d) (hd : (match d with | .struct _ | .array _ _ => true | _ => false) = true) (hi : (P.info? ty).map (·.size) = some cs.size)
    (h : wpList P ops Q rest (a.put o.dst (.agg cs)) w) : wpList P ops Q (o :: rest) a w :=
  wpList_step fun K hK => by
    rw [if_pos hgd]
    exact wp_load_row ty x ho g hx t cs fr d hg hu hd hi (hK _ _ h)
theorem takeA {P : Program} {ops : Array Oper} {Q : Exit → Act → World → Prop} {a : Act} {w : World} {md : Region.Mode} {i : Nat} {oi : Oper} {d : Tmp} {v : Value} {fuel : Nat} {listed : Array Bool} (hi : ops[i]? = some oi) (hd : oi.dst = some d)
    (hs : Region.noSelect ops = true) (hf : Region.free md ops listed i = true) (hr : (Region.ready md ops listed).contains i = true)
    (hQ : ∀ c a w, Q (.panic c) (a.put (some d) v) w → Q (.panic c) a w) (hw : Region.wanted oi (yielded ops a.tmps) = true) (hy : ∀ w, (execOp a.eval oi).run P w = .ok (.value v) w)
    (h : wpAny P md ops Q fuel (listed.setIfInBounds i true) (a.put (some d) v) w) : wpAny P md ops Q (fuel + 1) listed a w :=
  wpAny_take hi hs hf hr (by rw [hd]; exact hQ) (.inl ⟨hw, hy⟩) (by rw [hd]; exact h)
theorem wp_store_mid0 {P : Program} {op : Oper} {a : Act} {w : World} {K : Act → World → Prop} {Q : Exit → Act → World → Prop} (ty : TypeId) (x y : Operand) (ho : op.op = .store ty x y) (hd : op.dst = none)
    (b o : Nat) (cs : List Value) (hx : a.eval x = .pointer (some ⟨b, o, none⟩)) (hy : a.eval y = .agg cs.toArray)
    (ht : w.there b o cs.length) (hi : (P.info? ty).map (·.size) = some cs.length) (h1 : cs.toArray.all (·.oneCell') = true)
    (h : K a (w.setCells b o cs)) : op.wp P a w K Q := by
  refine wp_store_mid ty x y ho b o cs.toArray hx hy (by rw [List.size_toArray]; exact ht) (by rw [List.size_toArray]; exact hi) h1 ?_
  rw [hd, List.toList_toArray]; exact h
theorem wp_load_mid1 {P : Program} {op : Oper} {d1 : Tmp} {a : Act} {w : World} {K : Act → World → Prop} {Q : Exit → Act → World → Prop} (ty : TypeId) (x : Operand) (ho : op.op = .load ty x) (hd1 : op.dst = some d1)
    (b o : Nat) (hx : a.eval x = .pointer (some ⟨b, o, none⟩)) (cs : List Value) (d : TypeDesc) (hc : w.rangeAt b o cs)
    (hu : P.underlying ty = some d) (hd : d.isRow = true) (hi : (P.info? ty).map (·.size) = some cs.length)
    (h : K (a.put (some d1) (.agg cs.toArray)) w) : op.wp P a w K Q :=
  wp_load_mid ty x ho b o hx cs d hc hu hd hi (by rw [hd1]; exact h)
theorem drew_setCells (g : Nat) : ∀ (vs : List Value) (o : Nat) (w : World), w.drew.setCells g o vs = (w.setCells g o vs).drew
  | [], _, _ => rfl
  | v :: r, o, w => by
    rw [World.setCells, World.setCells, ← drew_setCells g r (o + 1)]; rfl
theorem MB.sub2 {w : World} {g : Nat} {t : TypeId} {r c : Int} {f : Nat → Int} (h : MB w g t r c f) (i : Nat) (hi : i < 6) : w.rangeAt g (2 + i * 6) (TL 6 fun k => f (i * 6 + k)) := fun j v hv => by
  have hj : j < 6 := by have := (List.getElem?_eq_some_iff.1 hv).1; rw [TL_len] at this; exact this
  rw [TL_at _ _ _ hj] at hv
  rw [Nat.add_assoc, h.cell (i * 6 + j) (by omega)]; exact hv
theorem in_any (n lo hi : Int) (w : World) : Calls Try.prog 103 #[.int .i64 n, .int .i64 lo, .int .i64 hi] w fun e w' => e = .returned (.bool (decide (lo ≤ n ∧ n ≤ hi))) ∧ w' = w := by
  by_cases h1 : lo ≤ n <;> by_cases h2 : n ≤ hi
  · have e : decide (lo ≤ n ∧ n ≤ hi) = true := by simp [h1, h2]
    rw [e]; clear e
    have t1 : decide (lo ≤ n) = true := by simpa using h1
    have t2 : decide (n ≤ hi) = true := by simpa using h2
    go_enter Try.func103, Try.ntmps103
    go_wp2_with fail
    go_ret
    exact ⟨rfl, rfl⟩
  · have e : decide (lo ≤ n ∧ n ≤ hi) = false := by simp [h2]
    rw [e]; clear e
    have t1 : decide (lo ≤ n) = true := by simpa using h1
    have t2 : decide (n ≤ hi) = false := by simpa using h2
    go_enter Try.func103, Try.ntmps103
    go_wp2_with fail
    go_ret
    exact ⟨rfl, rfl⟩
  all_goals
    have e : decide (lo ≤ n ∧ n ≤ hi) = false := by simp [h1]
    rw [e]; clear e
    have t1 : decide (lo ≤ n) = false := by simpa using h1
    go_enter Try.func103, Try.ntmps103
    go_wp2_with fail
    go_ret
    exact ⟨rfl, rfl⟩
def inRow (n r : Int) : Bool := decide (0 ≤ n ∧ n < r)
theorem inRow_eq (n r : Int) : decide (0 ≤ n ∧ n ≤ r - 1) = inRow n r := by
  unfold inRow
  rw [decide_eq_decide]
  omega
set_option maxRecDepth 100000 in
theorem hasRow_any (r c : Int) (f : Nat → Int) (hm : MW r c f) (n : Int) (w : World) : Calls Try.prog 130 #[MV r c f, .int .i64 n] w fun e w' => e = .returned (.bool (inRow n r)) ∧ Below w.heap.size w w' := by
  by_cases h1 : 0 ≤ n
  · go_enter Try.func130, Try.ntmps130
    go_upto_region 1 with fail
    obtain ⟨a1, a4, a5⟩ := new1 w (.cells (CL r c f).toArray 33)
    generalize World.alloc w _ = w2 at a1 a4 a5 ⊢
    replace a1 : MB w2 w.heap.size 33 r c f := a1
    have c0 := a1.rows
    have t1 : decide (0 ≤ n) = true := by simpa using h1
    have e : inRow n r = decide (n < r) := by unfold inRow; simp [h1]
    have b1 := hm.1
    have b2 := hm.2.1
    clear a1 a5 h1
    go_wp2_with fail
    go_ret
    exact ⟨congrArg (fun b => Ending.returned (.bool b)) e.symm, a4⟩
  · go_enter Try.func130, Try.ntmps130
    go_upto_region 1 with fail
    obtain ⟨a1, a4, a5⟩ := new1 w (.cells (CL r c f).toArray 33)
    generalize World.alloc w _ = w2 at a1 a4 a5 ⊢
    have t1 : decide (0 ≤ n) = false := by simpa using h1
    have e : inRow n r = false := by unfold inRow; simp [h1]
    clear a1 a5 h1
    go_wp2_with fail
    go_ret
    exact ⟨congrArg (fun b => Ending.returned (.bool b)) e.symm, a4⟩
/-- the code of a matrix and two rows -/
def rowC (r c : Int) (f : Nat → Int) (a b : Int) : Int := if okB r c f then (if inRow a r && inRow b r then 0 else 2) else 1
set_option maxRecDepth 100000 in
set_option maxHeartbeats 1000000 in
theorem spec_l02Row (r c : Int) (f : Nat → Int) (hm : MW r c f) (a b : Int) (g : Nat) (t : TypeId) (w : World) (hM : MB w g t r c f) : Calls Try.prog 128 #[.pointer (some ⟨g, 0, none⟩), .int .i64 a, .int .i64 b] w fun e w' => e = .returned (.int .i64 (rowC r c f a b)) ∧ w' = w := by
  go_enter Try.func128, Try.ntmps128
  go_wp2_with fail
  refine (l02Ok_any r c f hm g _ _ hM).mono ?_
  rintro e wn ⟨rfl, rfl⟩
  have c0 := hM.rows
  have b1 := hm.1
  have b2 := hm.2.1
  have HM := Lib.hid hM
  clear hM
  rcases hok : okB r c f with _ | _
  · have hV : rowC r c f a b = 1 := by unfold rowC; rw [hok]; rfl
    have HV := Lib.hid hV
    clear hok hV
    go_wp2_with fail
    go_ret
    exact ⟨congrArg (fun b => Ending.returned (.int .i64 b)) HV.out.symm, rfl⟩
  · rcases ha : inRow a r with _ | _
    · have hV : rowC r c f a b = 2 := by unfold rowC; rw [hok, ha]; rfl
      have HV := Lib.hid hV
      have HA := Lib.hid ha
      clear hok hV ha
      go_wp2_with fail
      refine (in_any _ _ _ _).mono ?_
      rintro e w1 ⟨rfl, rfl⟩
      rw [inRow_eq, HA.out]
      go_wp2_with fail
      go_ret
      exact ⟨congrArg (fun b => Ending.returned (.int .i64 b)) HV.out.symm, rfl⟩
    · rcases hb : inRow b r with _ | _
      · have hV : rowC r c f a b = 2 := by unfold rowC; rw [hok, ha, hb]; rfl
        have HV := Lib.hid hV
        have HA := Lib.hid ha
        have HB := Lib.hid hb
        clear hok hV ha hb
        go_wp2_with fail
        refine (in_any _ _ _ _).mono ?_
        rintro e w1 ⟨rfl, rfl⟩
        rw [inRow_eq, HA.out]
        go_wp2_with fail
        refine (in_any _ _ _ _).mono ?_
        rintro e w1 ⟨rfl, rfl⟩
        rw [inRow_eq, HB.out]
        go_wp2_with fail
        go_ret
        exact ⟨congrArg (fun b => Ending.returned (.int .i64 b)) HV.out.symm, rfl⟩
      · have hV : rowC r c f a b = 0 := by unfold rowC; rw [hok, ha, hb]; rfl
        have HV := Lib.hid hV
        have HA := Lib.hid ha
        have HB := Lib.hid hb
        clear hok hV ha hb
        go_wp2_with fail
        refine (in_any _ _ _ _).mono ?_
        rintro e w1 ⟨rfl, rfl⟩
        rw [inRow_eq, HA.out]
        go_wp2_with fail
        refine (in_any _ _ _ _).mono ?_
        rintro e w1 ⟨rfl, rfl⟩
        rw [inRow_eq, HB.out]
        go_wp2_with fail
        go_ret
        exact ⟨congrArg (fun b => Ending.returned (.int .i64 b)) HV.out.symm, rfl⟩
end Go.Proofs.Ytjbaeomjinnlhaa
