/-
  Matrices compared; IsReduced.
-/
import Derived.Test.YtjbaeomjinnlhaaOk2
import Derived.Deep.RegionHeld
import Derived.Test.YtjbaeomjinnlhaaRdm
namespace Go.Proofs.Ytjbaeomjinnlhaa
set_option linter.unusedVariables false
set_option linter.unusedSimpArgs false
open Go.ChangeShapes Go.WideShapes Go.ChangeAt Go.RowKit

theorem rows_eq {P : Program} {w : World} {e r : TypeId} (hr : P.underlying r = some (.array 6 e)) (hsr : (P.info? r).map (·.size) = some 6) (he : P.underlying e = some (.int .u16)) (hs : (P.info? e).map (·.size) = some 1) (f g : Nat → Int) (d : Nat) :
    ∀ is : List Nat, (∀ i ∈ is, i < 6) → (Op.eqItems (d + 1 + 1) r 6 (TL 36 f).toArray (TL 36 g).toArray is).run P w = .ok (is.all fun i => (List.range 6).all fun k => f (i * 6 + k) == g (i * 6 + k)) w
  | [], _ => by simp [Op.eqItems]
  | i :: is, h => by
    have hi : i < 6 := h i (by simp)
    have h1 := part_row (w := w) hr hsr 36 (i * 6) f (by omega)
    have h2 := part_row (w := w) hr hsr 36 (i * 6) g (by omega)
    have h3 := equal_vec (w := w) 6 d hr he hs (fun k => f (i * 6 + k)) (fun k => g (i * 6 + k))
    have ih := rows_eq (w := w) hr hsr he hs f g d is (fun j hj => h j (by simp [hj]))
    rw [Op.eqItems]
    simp only [Sem.run_bind, h1, h2, h3, Result.andThen_ok, List.all_cons]
    cases hb : ((List.range 6).all fun k => f (i * 6 + k) == g (i * 6 + k))
    · simp
    · simpa using ih
def sameC (f g : Nat → Int) : Bool := (List.range 6).all fun i => (List.range 6).all fun k => f (i * 6 + k) == g (i * 6 + k)
theorem equal_grid {P : Program} {w : World} {t e r : TypeId} (d : Nat) (ht : P.underlying t = some (.array 6 r)) (hr : P.underlying r = some (.array 6 e)) (hsr : (P.info? r).map (·.size) = some 6) (he : P.underlying e = some (.int .u16)) (hs : (P.info? e).map (·.size) = some 1) (f g : Nat → Int) :
    (Op.equalIn (d + 1 + 1 + 1) t (.agg (TL 36 f).toArray) (.agg (TL 36 g).toArray)).run P w = .ok (sameC f g) w := by
  obtain ⟨hc, i, hi⟩ := cellsOf_info hsr
  rw [run_equalIn_array w (d + 1 + 1) _ _ ht hi, hc]
  exact rows_eq hr hsr he hs f g d _ (fun i hi => List.mem_range.1 hi)
theorem grid_run (f g : Nat → Int) (w : World) : (Op.equal 31 (.agg (TL 36 f).toArray) (.agg (TL 36 g).toArray)).run Try.prog w = .ok (sameC f g) w :=
  equal_grid (t := 31) (r := 30) (e := 29) 9997 (by kernel_rfl) (by kernel_rfl) (by kernel_rfl) (by kernel_rfl) (by kernel_rfl) f g
theorem part_grid (f : Nat → Int) (r c : Int) (w : World) : (part 31 (CL r c f).toArray 2).run Try.prog w = .ok (.agg (TL 36 f).toArray) w := by
  have hg : Try.prog.underlying 31 = some (.array 6 30) := by kernel_rfl
  have hs : (Try.prog.info? 31).map (·.size) = some 36 := by kernel_rfl
  cases hq : Try.prog.info? 31 with
  | none => simp [hq] at hs
  | some j =>
    have hj : j.size = 36 := by simpa [hq] using hs
    have e2 : List.take 36 (List.drop 2 (CL r c f)) = TL 36 f := by
      show List.take 36 (TL 36 f) = TL 36 f
      rw [List.take_of_length_le (by rw [TL_len]; omega)]
    simp [part, isAgg, run_underlying hg, sizeOf, typeInfo, hq, hj, e2]
theorem matrix_run (r c : Int) (f g : Nat → Int) (w : World) : (Op.equal 33 (MV r c f) (MV r c g)).run Try.prog w = .ok (sameC f g) w := by
  have hp : (part 31 (CL r c f).toArray 2).run Try.prog w = .ok (.agg (TL 36 f).toArray) w := part_grid f r c w
  have hq : (part 31 (CL r c g).toArray 2).run Try.prog w = .ok (.agg (TL 36 g).toArray) w := part_grid g r c w
  have hg := equal_grid (P := Try.prog) (w := w) (t := 31) (r := 30) (e := 29) 9996 (by kernel_rfl) (by kernel_rfl) (by kernel_rfl) (by kernel_rfl) (by kernel_rfl) f g
  show (Op.equalIn 10000 33 (.agg (CL r c f).toArray) (.agg (CL r c g).toArray)).run Try.prog w = _
  rw [run_equalIn_struct w 9999 33 _ _ (by kernel_rfl) (by kernel_rfl)]
  have hg' : (Op.equalIn 9999 31 (.agg (TL 36 f).toArray) (.agg (TL 36 g).toArray)).run Try.prog w = .ok (sameC f g) w := hg
  have h8 : Try.prog.underlying 22 = some (.int .i8) := by kernel_rfl
  have p0 : ∀ f : Nat → Int, (part 22 (CL r c f).toArray 0).run Try.prog w = .ok (.int .i8 r) w := fun f => run_part_plain w (plainKey_int h8) rfl
  have p1 : ∀ f : Nat → Int, (part 22 (CL r c f).toArray 1).run Try.prog w = .ok (.int .i8 c) w := fun f => run_part_plain w (plainKey_int h8) rfl
  have q0 : ∀ a : Int, (Op.equalIn 9999 22 (.int .i8 a) (.int .i8 a)).run Try.prog w = .ok true w := fun a => by
    have := run_equalIn_int (P := Try.prog) w 9998 22 .i8 .i8 a a h8
    rw [this]; simp
  clear hg
  unfold Program.fieldsOf
  rw [Try.underlying33]
  simp [Op.eqFields]
  simp only [p0, p1, q0, hp, hq, hg', Result.andThen_ok, Bool.true_eq_false, if_false]
  cases sameC f g <;> simp

theorem wpList_load_mid_w {P : Program} {w : World} {o : Oper} {a : Act} {ops : Array Oper} {rest : List Oper} {Q : Exit → Act → World → Prop} (hgd : Region.wanted o (yielded ops a.tmps) = true) (ty : TypeId) (x : Operand) (ho : o.op = .load ty x)
    (b off : Nat) (hx : a.eval x = .pointer (some ⟨b, off, none⟩)) (cs : List Value) (d : TypeDesc) (hc : w.rangeAt b off cs)
    (hu : P.underlying ty = some d) (hd : d.isRow = true) (hi : (P.info? ty).map (·.size) = some cs.length)
    (h : wpList P ops Q rest (a.put o.dst (.agg cs.toArray)) w) : wpList P ops Q (o :: rest) a w :=
  wpList_step fun K hK => by
    rw [if_pos hgd]
    exact wp_load_mid ty x ho b off hx cs d hc hu hd hi (hK _ _ h)
theorem wpList_eql_agg_w {P : Program} {w : World} {o : Oper} {a : Act} {ops : Array Oper} {rest : List Oper} {Q : Exit → Act → World → Prop} (hgd : Region.wanted o (yielded ops a.tmps) = true) (ty ty' : TypeId) (x y : Operand) (ho : o.op = .binOp .eql ty x y ty') (b : Bool) (xs ys : Array Value) (hx : a.eval x = .agg xs) (hy : a.eval y = .agg ys)
    (hG : P.eqGuardType P.depth ty = false) (hr : (Op.equal ty (.agg xs) (.agg ys)).run P w = .ok b w)
    (h : wpList P ops Q rest (a.put o.dst (.bool b)) w) : wpList P ops Q (o :: rest) a w :=
  wpList_step fun K hK => by
    rw [if_pos hgd]
    unfold Oper.wp execOp
    have : (do eqGuard .eql ty x y (.agg xs) (.agg ys); binOp .eql ty (.agg xs) (.agg ys) : Sem Value).run P w = .ok (.bool b) w := by
      have hp : ∀ w : World, Sem.run P (Sem.program Sem.pure) w = .ok P w := fun _ => rfl
      simp [eqGuard, binOp, hr, Go.program, hp, hG]
    simp only [ho, hx, hy, Sem.run_bind, Sem.run_pure, Result.andThen_ok] at this ⊢
    rw [this]
    exact hK _ _ h
def isRedV (r c : Int) (f : Nat → Int) : Value := if okB r c f = true then .tuple #[.bool (sameC (redF f r.toNat) f), .int .i64 0] else .tuple #[.bool false, .int .i64 1]
theorem isRedV_form (r c : Int) (f : Nat → Int) (hm : MW r c f) : ∃ vv kk, isRedV r c f = .tuple #[.bool vv, .int .i64 kk] := by
  unfold isRedV
  split
  · exact ⟨_, _, rfl⟩
  · exact ⟨_, _, rfl⟩

set_option maxRecDepth 100000 in
set_option maxHeartbeats 1000000 in
theorem spec_IsReduced (r c : Int) (f : Nat → Int) (hm : MW r c f) (w : World) : Calls Try.prog 50 #[MV r c f] w fun e w' => e = .returned (isRedV r c f) ∧ Below w.heap.size w w' := by
  go_enter Try.func50, Try.ntmps50
  go_upto_region 1 with fail
  obtain ⟨a1, a4, a5⟩ := new1 w (.cells (CL r c f).toArray 33)
  obtain ⟨g, hg⟩ : ∃ g, g = w.heap.size := ⟨_, rfl⟩
  rw [← hg] at a1 a4 a5 ⊢
  generalize World.alloc w _ = w2 at a1 a4 a5 ⊢
  replace a1 : MB w2 g 33 r c f := a1
  have HG := Lib.hid hg
  have HF := Lib.hid hm.2.2.2.2
  clear hg a5
  go_wp2_with fail
  refine (l02Ok_any r c f hm g _ _ a1).mono ?_
  rintro e wn ⟨rfl, rfl⟩
  rcases hok : okB r c f with _ | _
  · have hV : isRedV r c f = .tuple #[.bool false, .int .i64 1] := by unfold isRedV; rw [hok]; rfl
    have HV := Lib.hid hV
    clear hok hV
    go_wp2_with fail
    go_ret2
    obtain rfl := HG.out
    exact ⟨congrArg Ending.returned HV.out.symm, a4⟩
  · obtain ⟨R, C, hRe, hCe, _, hR, _, hC⟩ := ok_dims hok
    subst hRe; subst hCe
    obtain ⟨RF, hRF⟩ : ∃ RF, RF = redF f R := ⟨_, rfl⟩
    have hV : isRedV R C f = .tuple #[.bool (sameC RF f), .int .i64 0] := by unfold isRedV; rw [hok, hRF]; rfl
    have HV := Lib.hid hV
    have HRF := Lib.hid hRF
    have HOK := Lib.hid hok
    clear hok hV hRF
    go_upto_region 4 with (first | guard_target =~ wpList _ _ _ (⟨_, Op.load 33 (Operand.tmp 1), _, _, _, _⟩ :: _) _ _; refine wpList_load_row rfl 33 _ rfl (g) rfl _ (CL R C f).toArray (0, 0) _ a1 Try.underlying33 rfl (by kernel_rfl) ?_ | guard_target =~ wpList _ _ _ (⟨_, Op.store 33 _ _, _, _, _, _⟩ :: _) _ _; refine wpList_store_fresh (cells := (CL R C f).toArray) rfl 33 _ _ rfl rfl rfl (by kernel_rfl) (by rw [CL_size]; rfl) (CL_one _ _ _) ?_)
    have b1 := a1.alloc (.cells (CL R C f).toArray 33)
    have b2 : MB (World.alloc _ (.cells (CL R C f).toArray 33)) _ 33 R C f := heap_alloc_last wn (.cells (CL R C f).toArray 33)
    have b4 := a4.alloc (Nat.le_of_lt a1.lt) (.cells (CL R C f).toArray 33)
    have hlt := a1.lt
    obtain ⟨k, hk⟩ : ∃ k, k = wn.heap.size := ⟨_, rfl⟩
    rw [← hk] at b2 hlt ⊢
    generalize World.alloc wn (.cells (CL R C f).toArray 33) = wd at b1 b2 b4 ⊢
    clear a1 a4 hk
    go_wp2_with fail
    refine (l02Reduce_any R C hR hC (natG f) (natG_b HF.out) (ok_zr HOK.out) (ok_zc HOK.out) k _ (b2.ext fun s _ => (un6_nat HF.out s).symm)).mono ?_
    rintro e wm ⟨v, rfl, _, c2, hb⟩
    have c1 : MB wm g 33 R C f := (hb.2.2.2.2 g b1.lt (by omega)).trans b1
    replace b4 := Beside.below b4 hb (by omega) (Nat.le_of_lt b1.lt)
    replace c2 := c2.ext (f' := RF) (fun s hs => by rw [HRF.out]; exact red_same HF.out hC HOK.out s hs)
    clear b1 b2 hb
    go_wp2_with (first | (guard_target =~ wpList _ _ _ (⟨_, Op.load 33 (Operand.tmp 4), _, _, _, _⟩ :: _) _ _; refine wpList_load_row rfl 33 _ rfl (k) rfl _ (CL R C RF).toArray (0, 0) _ c2 Try.underlying33 rfl (by kernel_rfl) ?_) | (guard_target =~ wpList _ _ _ (⟨_, Op.load 33 (Operand.tmp 1), _, _, _, _⟩ :: _) _ _; refine wpList_load_row rfl 33 _ rfl (g) rfl _ (CL R C f).toArray (0, 0) _ c1 Try.underlying33 rfl (by kernel_rfl) ?_) | (guard_target =~ wpList _ _ _ (⟨_, Op.binOp .eql 33 _ _ _, _, _, _, _⟩ :: _) _ _; refine wpList_eql_agg rfl .eql 33 33 _ _ rfl (.inl rfl) (sameC RF f) _ _ rfl rfl (by kernel_rfl) (matrix_run R C RF f _) ?_))
    go_ret2
    obtain rfl := HG.out
    exact ⟨congrArg Ending.returned HV.out.symm, b4⟩

set_option maxRecDepth 100000 in
set_option maxHeartbeats 1000000 in
theorem impl_IsReduced (r c : Int) (f : Nat → Int) (hm : MW r c f) (w : World) : Calls Try.prog 51 #[MV r c f] w fun e w' => e = .returned (isRedV r c f) ∧ Below w.heap.size w w' := by
  go_enter Try.func51, Try.ntmps51
  go_upto_region 1 with fail
  obtain ⟨a1, a4, a5⟩ := new1 w (.cells (CL r c f).toArray 33)
  obtain ⟨g, hg⟩ : ∃ g, g = w.heap.size := ⟨_, rfl⟩
  rw [← hg] at a1 a4 a5 ⊢
  generalize World.alloc w _ = w2 at a1 a4 a5 ⊢
  replace a1 : MB w2 g 33 r c f := a1
  have HG := Lib.hid hg
  have HF := Lib.hid hm.2.2.2.2
  clear hg a5
  go_wp2_with (first | (guard_target =~ wpList _ _ _ (⟨_, Op.load 33 (Operand.tmp 1), _, _, _, _⟩ :: _) _ _; refine wpList_load_row rfl 33 _ rfl (g) rfl _ (CL r c f).toArray (0, 0) _ a1 Try.underlying33 rfl (by kernel_rfl) ?_))
  refine (impl_ReduceMatrix r c f hm _).mono ?_
  rintro e wn ⟨rfl, hn⟩
  replace a4 := bnext a4 hn (Nat.le_of_lt a1.lt)
  replace a1 := a1.below hn a1.lt
  clear hn
  rcases hok : okB r c f with _ | _
  · have hV : isRedV r c f = .tuple #[.bool false, .int .i64 1] := by unfold isRedV; rw [hok]; rfl
    have HV := Lib.hid hV
    have hW : reduceV r c f = .tuple #[MV 0 0 (fun _ => 0), .int .i64 1] := by unfold reduceV; rw [hok]; rfl
    rw [hW]
    clear hok hV hW
    go_upto_region 2 with (first | guard_target =~ wpList _ _ _ (⟨_, Op.store 33 _ _, _, _, _, _⟩ :: _) _ _; refine wpList_store_fresh (cells := (CL 0 0 (fun _ => 0)).toArray) rfl 33 _ _ rfl rfl rfl (by kernel_rfl) (by rw [CL_size]; rfl) (CL_one _ _ _) ?_)
    have b4 := a4.alloc (Nat.le_of_lt a1.lt) (.cells (CL 0 0 fun _ => 0).toArray 33)
    generalize World.alloc wn _ = wd at b4 ⊢
    clear a1 a4
    go_wp2_with fail
    go_ret2
    obtain rfl := HG.out
    exact ⟨congrArg Ending.returned HV.out.symm, b4⟩
  · obtain ⟨R, C, hRe, hCe, _, hR, _, hC⟩ := ok_dims hok
    subst hRe; subst hCe
    obtain ⟨RF, hRF⟩ : ∃ RF, RF = redF f R := ⟨_, rfl⟩
    have hV : isRedV R C f = .tuple #[.bool (sameC RF f), .int .i64 0] := by unfold isRedV; rw [hok, hRF]; rfl
    have HV := Lib.hid hV
    have HRF := Lib.hid hRF
    have HOK := Lib.hid hok
    have hW : reduceV R C f = .tuple #[MV R C RF, .int .i64 0] := by unfold reduceV; rw [hok, hRF]; rfl
    rw [hW]
    clear hok hV hRF hW
    go_upto_region 2 with (first | guard_target =~ wpList _ _ _ (⟨_, Op.store 33 _ _, _, _, _, _⟩ :: _) _ _; refine wpList_store_fresh (cells := (CL R C RF).toArray) rfl 33 _ _ rfl rfl rfl (by kernel_rfl) (by rw [CL_size]; rfl) (CL_one _ _ _) ?_)
    have b1 := a1.alloc (.cells (CL R C RF).toArray 33)
    have b2 : MB (World.alloc _ (.cells (CL R C RF).toArray 33)) _ 33 R C RF := heap_alloc_last wn (.cells (CL R C RF).toArray 33)
    have b4 := a4.alloc (Nat.le_of_lt a1.lt) (.cells (CL R C RF).toArray 33)
    obtain ⟨k, hk⟩ : ∃ k, k = wn.heap.size := ⟨_, rfl⟩
    rw [← hk] at b2 ⊢
    generalize World.alloc wn (.cells (CL R C RF).toArray 33) = wd at b1 b2 b4 ⊢
    clear a1 a4 hk
    have r1 := b1.grid
    have r2 := b2.grid
    go_wp2_with (first | (guard_target =~ wpList _ _ _ (⟨_, Op.load 31 (Operand.tmp 14), _, _, _, _⟩ :: _) _ _; refine wpList_load_mid_w rfl 31 _ rfl (k) _ rfl (TL 36 RF) (.array 6 30) (r2) (by kernel_rfl) rfl (by kernel_rfl) ?_) | (guard_target =~ wpList _ _ _ (⟨_, Op.load 31 (Operand.tmp 16), _, _, _, _⟩ :: _) _ _; refine wpList_load_mid_w rfl 31 _ rfl (g) _ rfl (TL 36 f) (.array 6 30) (r1) (by kernel_rfl) rfl (by kernel_rfl) ?_) | (guard_target =~ wpList _ _ _ (⟨_, Op.binOp .eql 31 _ _ _, _, _, _, _⟩ :: _) _ _; refine wpList_eql_agg_w rfl 31 31 _ _ rfl (sameC RF f) _ _ rfl rfl (by kernel_rfl) (grid_run RF f _) ?_))
    go_ret2
    obtain rfl := HG.out
    exact ⟨congrArg Ending.returned HV.out.symm, b4⟩
end Go.Proofs.Ytjbaeomjinnlhaa
