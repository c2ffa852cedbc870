/-
  Rows behind an interface; the product of a matrix and a vector.
-/
import Derived.Test.YtjbaeomjinnlhaaOk2
import Derived.Deep.RegionHeld
import Derived.Test.YtjbaeomjinnlhaaTwo
import Derived.Test.YtjbaeomjinnlhaaRed2
namespace Go.Proofs.Ytjbaeomjinnlhaa
set_option linter.unusedVariables false
set_option linter.unusedSimpArgs false
open Go.ChangeShapes Go.WideShapes Go.ChangeAt Go.RowKit

/-- the sum of the products of the first n cells -/
def dotI (a b : Nat → Int) : Nat → Int
  | 0 => 0
  | n + 1 => xorI (dotI a b n) (mulI (a n) (b n))
theorem dotI_b {a b : Nat → Int} (ha : VW a) (hb : VW b) : ∀ n, 0 ≤ dotI a b n ∧ dotI a b n < 65536
  | 0 => ⟨Int.le_refl 0, show (0 : Int) < 65536 by decide⟩
  | n + 1 => by
    have h1 := dotI_b ha hb n
    have h2 := mulI_b (ha n).1 (ha n).2 (hb n).1 (hb n).2
    exact xorI_b h1.1 h1.2 h2.1 h2.2
theorem dotI_zero {a b : Nat → Int} : ∀ n, (∀ k, k < n → a k = 0) → dotI a b n = 0
  | 0, _ => rfl
  | n + 1, h => by
    unfold dotI
    rw [dotI_zero n (fun k hk => h k (by omega)), h n (by omega), mulI_zero]; rfl
theorem mulI_zero_right (y : Int) : mulI y 0 = 0 := by
  unfold mulI
  rw [show (0 : Int).toNat = 0 from rfl, Nim.mul_comm, show Nim.mul 0 y.toNat = 0 from Nim.nm_zero_left 4 _]; rfl
theorem dotI_more {a b : Nat → Int} (ha : VW a) (hb : VW b) (m : Nat) : ∀ n, m ≤ n → (∀ k, m ≤ k → k < n → a k = 0 ∨ b k = 0) → dotI a b n = dotI a b m
  | 0, h, _ => by rw [show m = 0 from by omega]
  | n + 1, h, hz => by
    by_cases e : m = n + 1
    · rw [e]
    · have hr : mulI (a n) (b n) = 0 := by
        rcases hz n (by omega) (by omega) with h1 | h1
        · rw [h1, mulI_zero]
        · rw [h1, mulI_zero_right]
      rw [show dotI a b (n + 1) = xorI (dotI a b n) (mulI (a n) (b n)) from rfl, dotI_more ha hb m n (by omega) (fun k h1 h2 => hz k h1 (by omega)), hr, xorI_zero (dotI_b ha hb m).1]
theorem dotI_ext {a b a' b' : Nat → Int} : ∀ n, (∀ k, k < n → a k = a' k) → (∀ k, k < n → b k = b' k) → dotI a b n = dotI a' b' n
  | 0, _, _ => rfl
  | n + 1, h1, h2 => by
    unfold dotI
    rw [dotI_ext n (fun k hk => h1 k (by omega)) (fun k hk => h2 k (by omega)), h1 n (by omega), h2 n (by omega)]
/-- the first column with a cell that is not 0 -/
def firstI (v : Nat → Int) : Nat := Nim.firstOf fun k => (v k).toNat
theorem firstI_is {v : Nat → Int} (hv : VW v) {p : Nat} (hp : p < 6) (h : ¬ v p = 0) (hb : ∀ k, k < p → v k = 0) : firstI v = p :=
  Nim.first_is hp (show (v p).toNat ≠ 0 by have := hv p; omega) (fun k hk => show (v k).toNat = 0 by rw [hb k hk]; rfl)
theorem firstI_none {v : Nat → Int} (hb : ∀ k, k < 6 → v k = 0) : firstI v = 6 := Nim.first_none (fun k hk => show (v k).toNat = 0 by rw [hb k hk]; rfl)
theorem firstI_le (v : Nat → Int) : firstI v ≤ 6 := by have := Nim.pivot_le (fun k _ => (v k).toNat) 0 6 0; exact this
theorem firstI_before {v : Nat → Int} (hv : VW v) : ∀ k, k < firstI v → k < 6 → v k = 0 := fun k hk h6 => by
  by_cases e : ∃ j, j < 6 ∧ ¬ v j = 0 ∧ ∀ i, i < j → v i = 0
  · obtain ⟨j, hj, h1, h2⟩ := e
    rw [firstI_is hv hj h1 h2] at hk
    exact h2 k hk
  · have hall : ∀ n, n ≤ 6 → ∀ i, i < n → v i = 0 := by
      intro n
      induction n with
      | zero => intro _ i hi; omega
      | succ n ih =>
        intro hn i hi
        by_cases h1 : i = n
        · subst h1
          exact Classical.byContradiction fun x => e ⟨i, by omega, x, fun t ht => ih (by omega) t ht⟩
        · exact ih (by omega) i (by omega)
    exact hall 6 (Nat.le_refl 6) k h6
/-- a row as the program has it -/
def LRC (p : Nat) (v : Nat → Int) : List Value := .int .i64 p :: TL 6 v
def rowV (v : Nat → Int) : Value := if firstI v < 6 then .iface 153 (.agg (LRC (firstI v) v).toArray) else .iface 159 (.agg #[])
theorem wpList_build_lead {P : Program} {w : World} {o : Oper} {a : Act} {ops : Array Oper} {rest : List Oper} {Q : Exit → Act → World → Prop} (hgd : o.guard = none) (ty : TypeId) (x y : Operand) (ho : o.op = .build ty #[(0, x), (1, y)]) (p : Nat) (v : Nat → Int) (hx : a.eval x = .int .i64 p) (hy : a.eval y = .agg (TL 6 v).toArray)
    (hb : ∀ (p : Nat) (v : Nat → Int), P.built ty [(0, .int .i64 p), (1, .agg (TL 6 v).toArray)] = some (LRC p v).toArray)
    (h : wpList P ops Q rest (a.put o.dst (.agg (LRC p v).toArray)) w) : wpList P ops Q (o :: rest) a w := by
  refine wpList_build hgd ty #[(0, x), (1, y)] ho ?_ ?_
  · simp [hx, hy, hb]
  · simpa [hx, hy, hb] using h
set_option maxRecDepth 100000 in
set_option maxHeartbeats 1000000 in
theorem rowOf_any (v : Nat → Int) (hv : VW v) (w : World) : Calls Try.prog 170 #[VV v] w fun e w' => e = .returned (rowV v) ∧ Below w.heap.size w w' := by
  go_enter Try.func170, Try.ntmps170
  go_upto_region 1 with fail
  obtain ⟨a1, a4, a5⟩ := new1 w (.cells (TL 6 v).toArray 45)
  obtain ⟨g, hg⟩ : ∃ g, g = w.heap.size := ⟨_, rfl⟩
  rw [← hg] at a1 a4 a5 ⊢
  generalize World.alloc w _ = w2 at a1 a4 a5 ⊢
  replace a1 : RB w2 g 45 6 v := a1
  have HG := Lib.hid hg
  have HV := Lib.hid hv
  clear hg a5 hv
  go_upto_region 2 with (first | (guard_target =~ wpList _ _ _ (⟨_, Op.load 45 (Operand.tmp 1), _, _, _, _⟩ :: _) _ _; refine wpList_load_row rfl 45 _ rfl (g) rfl _ (TL 6 v).toArray (0, 0) (.array 6 29) (a1) (by kernel_rfl) rfl (by kernel_rfl) ?_))
  go_loopw [6] (fun p wr => ∃ (k : Nat), p = .int .i64 k ∧ k ≤ 6 ∧ RB wr g 45 6 v ∧ Hid (Below g w wr) ∧ Hid (∀ j, j < k → v j = 0)) (fun p _ => (6 - intOf p).toNat)
  case atStart => exact ⟨0, rfl, by omega, a1, Lib.hid a4, Lib.hid (fun j hj => by omega)⟩
  case round =>
    clear a1 a4
    obtain ⟨k, rfl, hk, h1, hb, hz⟩ := hrel
    by_cases hlt : k < 6
    · have T1 : decide ((k : Int) < 6) = true := by simp; omega
      have k1 : (k : Int) < 6 := by omega
      have b1 := HV.out k
      by_cases h0 : v k = 0
      · have T2 : (v k != 0) = false := by simpa using h0
        have H0 := Lib.hid h0
        clear h0
        go_wp2_with (first | (guard_target =~ wpList _ _ _ (⟨_, Op.index 45 _ _, _, _, _, _⟩ :: _) _ _; refine wpList_index_cell rfl 45 _ _ rfl v k rfl rfl hlt (e := 29) (by kernel_rfl) (by kernel_rfl) (by kernel_rfl) ?_))
        exact ⟨⟨k + 1, rfl, by omega, h1, hb, Lib.hid (fun j hj => by
          by_cases e : j = k
          · rw [e]; exact H0.out
          · exact hz.out j (by omega))⟩, by simp [intOf]; omega⟩
      · have T2 : (v k != 0) = true := by simpa using h0
        have hR : rowV v = .iface 153 (.agg (LRC k v).toArray) := by
          unfold rowV
          rw [firstI_is HV.out hlt h0 hz.out, if_pos hlt]
        have HR := Lib.hid hR
        clear h0 hR
        go_wp2_with (first | (guard_target =~ wpList _ _ _ (⟨_, Op.index 45 _ _, _, _, _, _⟩ :: _) _ _; refine wpList_index_cell rfl 45 _ _ rfl v k rfl rfl hlt (e := 29) (by kernel_rfl) (by kernel_rfl) (by kernel_rfl) ?_) | (guard_target =~ wpList _ _ _ (⟨_, Op.load 45 (Operand.tmp 1), _, _, _, _⟩ :: _) _ _; refine wpList_load_row rfl 45 _ rfl (g) rfl _ (TL 6 v).toArray (0, 0) (.array 6 29) (h1) (by kernel_rfl) rfl (by kernel_rfl) ?_) | (guard_target =~ wpList _ _ _ (⟨_, Op.build 153 _, _, _, _, _⟩ :: _) _ _; refine wpList_build_lead rfl 153 _ _ rfl k v rfl rfl (fun _ _ => by kernel_rfl) ?_))
        go_ret
        obtain rfl := HG.out
        exact ⟨congrArg Ending.returned HR.out.symm, hb.out⟩
    · obtain rfl : k = 6 := by omega
      have T1 : decide (((6 : Nat) : Int) < 6) = false := by simp
      have hR : rowV v = .iface 159 (.agg #[]) := by
        unfold rowV
        rw [firstI_none hz.out, if_neg (by omega)]
      have HR := Lib.hid hR
      clear hR
      go_wp2_with fail
      go_ret
      obtain rfl := HG.out
      exact ⟨congrArg Ending.returned HR.out.symm, hb.out⟩

def HB (w : World) (g : Nat) (p : Nat) (v : Nat → Int) : Prop := w.heap[g]? = some (.cells (LRC p v).toArray 153 (0, 0))
theorem HB.first {w : World} {g p : Nat} {v : Nat → Int} (h : HB w g p v) : w.cell? ⟨g, 0, none⟩ = some (.int .i64 p) := cell_of_row _ _ _ _ _ _ h
theorem HB.cell {w : World} {g p : Nat} {v : Nat → Int} (h : HB w g p v) (k : Nat) (hk : k < 6) : w.cell? ⟨g, 1 + k, none⟩ = some (.int .u16 (v k)) := by
  refine (cell_of_row _ _ _ _ _ _ h).trans ?_
  rw [List.getElem?_toArray, Nat.add_comm]
  exact TL_at 6 v k hk
set_option maxRecDepth 100000 in
set_option maxHeartbeats 1000000 in
theorem leadTimes_any (p : Nat) (hp : p ≤ 6) (v x : Nat → Int) (hv : VW v) (hx : VW x) (hz : ∀ k, k < p → v k = 0) (w : World) : Calls Try.prog 207 #[.agg (LRC p v).toArray, VV x] w fun e w' => e = .returned (.int .u16 (dotI v x 6)) ∧ Below w.heap.size w w' := by
  go_enter Try.func207, Try.ntmps207
  go_upto_region 1 with fail
  obtain ⟨a1, a2, a4, a5⟩ := new2 w (.cells (LRC p v).toArray 153) (.cells (TL 6 x).toArray 45)
  obtain ⟨g, hg⟩ : ∃ g, g = w.heap.size := ⟨_, rfl⟩
  rw [← hg] at a1 a2 a4 a5 ⊢
  generalize World.alloc (World.alloc w _) _ = w2 at a1 a2 a4 a5 ⊢
  replace a1 : HB w2 g p v := a1
  replace a2 : RB w2 (g + 1) 45 6 x := a2
  have HG := Lib.hid hg
  have HV := Lib.hid hv
  have HX := Lib.hid hx
  have c0 := a1.first
  have e0 := Lib.hid (dotI_zero (b := x) p hz)
  clear hg a5 hv hx hz
  go_wp2_with fail
  go_loopw [6, 5] (fun q s wr => ∃ (k : Nat), q = .int .i64 k ∧ k ≤ 6 ∧ s = .int .u16 (dotI v x k) ∧ HB wr g p v ∧ RB wr (g + 1) 45 6 x ∧ Hid (Below g w wr)) (fun q _ _ => (6 - intOf q).toNat)
  case atStart => exact ⟨p, rfl, hp, by rw [e0.out], a1, a2, Lib.hid a4⟩
  case round =>
    clear a1 a2 a4 c0
    obtain ⟨k, rfl, hk, rfl, h1, h2, hb⟩ := hrel
    have b3 := dotI_b HV.out HX.out k
    by_cases hlt : k < 6
    · have T1 : decide ((k : Int) < 6) = true := by simp; omega
      have k1 : (k : Int) < 6 := by omega
      have q1 := h1.cell k hlt
      have q2 := h2.cell k hlt
      have b1 := HV.out k
      have b2 := HX.out k
      have bm := mulI_b b1.1 b1.2 b2.1 b2.2
      have H1 := Lib.hid h1; have H2 := Lib.hid h2
      clear h1 h2
      go_wp2_with fail
      refine wp_region_still_tail 10 (by kernel_rfl) (by kernel_rfl) ?_
      simp only [List.take_succ_cons, List.take_zero, List.drop_succ_cons, List.drop_zero]
      iterate 8 still_step
      still_call (times_eq (v k) (x k) b1.1 b1.2 b2.1 b2.2 _)
      still_call (nplus_eq (dotI v x k) (mulI (v k) (x k)) b3.1 b3.2 bm.1 bm.2 _)
      refine wpStill_nil ?_
      change wpList _ _ _ _ _ wr.drew
      go_wp2_with fail
      exact ⟨⟨k + 1, rfl, by omega, rfl, H1.out, H2.out, Lib.hid hb.out.drew⟩, by simp [intOf]; omega⟩
    · obtain rfl : k = 6 := by omega
      have T1 : decide (((6 : Nat) : Int) < 6) = false := by simp
      go_wp2_with fail
      go_ret
      obtain rfl := HG.out
      exact ⟨rfl, hb.out⟩
theorem zeroTimes_any (x : Nat → Int) (w : World) : Calls Try.prog 208 #[.agg #[], VV x] w fun e w' => e = .returned (.int .u16 0) ∧ Below w.heap.size w w' := by
  go_enter Try.func208, Try.ntmps208
  go_upto_region 1 with fail
  obtain ⟨a1, a2, a4, a5⟩ := new2 w (.cells #[] 159) (.cells (TL 6 x).toArray 45)
  generalize World.alloc (World.alloc w _) _ = w2 at a1 a2 a4 a5 ⊢
  go_wp2_with fail
  go_ret
  exact ⟨rfl, a4⟩

/-- the first n rows of a matrix, as the program has them -/
def IL (n : Nat) (f : Nat → Int) : List Value := (List.range 6).map fun i => if i < n then rowV (fun k => f (i * 6 + k)) else .nilIface
theorem IL_len (n : Nat) (f : Nat → Int) : (IL n f).length = 6 := by simp [IL]
theorem IL_at (n : Nat) (f : Nat → Int) (i : Nat) (hi : i < 6) : (IL n f)[i]? = some (if i < n then rowV (fun k => f (i * 6 + k)) else .nilIface) := by simp [IL, hi]
theorem IL_zero (f : Nat → Int) : #[Value.nilIface, .nilIface, .nilIface, .nilIface, .nilIface, .nilIface] = (IL 0 f).toArray := rfl
theorem IL_set (n : Nat) (f : Nat → Int) (hn : n < 6) : (IL n f).toArray.setIfInBounds n (rowV fun k => f (n * 6 + k)) = (IL (n + 1) f).toArray := by
  rw [List.setIfInBounds_toArray]
  refine congrArg _ (List.ext_getElem? fun j => ?_)
  rw [List.getElem?_set]
  by_cases e : n = j
  · subst e
    rw [if_pos rfl, if_pos (by rw [IL_len]; exact hn), IL_at _ _ _ hn, if_pos (by omega)]
  · rw [if_neg e]
    by_cases hj : j < 6
    · rw [IL_at _ _ _ hj, IL_at _ _ _ hj]
      by_cases h : j < n
      · rw [if_pos h, if_pos (by omega)]
      · rw [if_neg h, if_neg (by omega)]
    · rw [List.getElem?_eq_none (by rw [IL_len]; omega), List.getElem?_eq_none (by rw [IL_len]; omega)]
def IB (w : World) (g : Nat) (n : Nat) (f : Nat → Int) : Prop := w.heap[g]? = some (.cells (IL n f).toArray 145 (0, 0))
theorem IB.lt {w : World} {g n : Nat} {f : Nat → Int} (h : IB w g n f) : g < w.heap.size := (Array.getElem?_eq_some_iff.1 h).1
theorem IB.below {w w' : World} {g n B : Nat} {f : Nat → Int} (h : IB w g n f) (hb : Below B w w') (hg : g < B) : IB w' g n f := (hb.block g hg).trans h
theorem IB.cell {w : World} {g n : Nat} {f : Nat → Int} (h : IB w g n f) (i : Nat) (hi : i < 6) : w.cell? ⟨g, i, none⟩ = some (if i < n then rowV (fun k => f (i * 6 + k)) else .nilIface) :=
  (cell_of_row _ _ _ _ _ _ h).trans (by rw [List.getElem?_toArray]; exact IL_at n f i hi)
theorem IB.free {w : World} {g n : Nat} {f : Nat → Int} (h : IB w g n f) (o : Nat) : w.frozen? ⟨g, o, none⟩ = false := by
  unfold World.frozen?; rw [h]; simp
theorem IB.put {w : World} {g n : Nat} {f : Nat → Int} (h : IB w g n f) (hn : n < 6) : IB (w.setCell ⟨g, n, none⟩ (rowV fun k => f (n * 6 + k))) g (n + 1) f := by
  unfold IB; rw [heap_setCell_same w g n _ _ _ h, IL_set n f hn]
theorem rowV_one (v : Nat → Int) : (rowV v).oneCell' = true := by unfold rowV; split <;> rfl
theorem IL_one (n : Nat) (f : Nat → Int) : (IL n f).toArray.all (·.oneCell') = true := by
  rw [List.all_toArray, List.all_eq_true]
  intro x hx
  unfold IL at hx
  rw [List.mem_map] at hx
  obtain ⟨i, _, rfl⟩ := hx
  split
  · exact rowV_one _
  · rfl
theorem index_iface {P : Program} {w : World} {t e : TypeId} {ms : Array _} (ht : P.underlying t = some (.array 6 e)) (he : P.underlying e = some (.interface ms)) (hs : (P.info? e).map (·.size) = some 1) (cs : Array Value) (i : Nat) (hi : i < 6) (v : Value) (hv : cs[i]? = some v) :
    (Instr.index t (.agg cs) (.int .i64 i)).run P w = .ok v w := by
  have hp : (part e cs i).run P w = .ok v w := by simp [part, isAgg, run_underlying he, hv]
  cases hq : P.info? e with
  | none => simp [hq] at hs
  | some j =>
    have hj : j.size = 1 := by simpa [hq] using hs
    simp [Instr.index, asIntOf, run_underlying ht, sizeOf, typeInfo, hq, hj, hp, hi]
theorem wpList_index_iface {P : Program} {w : World} {o : Oper} {a : Act} {ops : Array Oper} {rest : List Oper} {Q : Exit → Act → World → Prop} {e : TypeId} {ms : Array _} (hgd : o.guard = none) (ty : TypeId) (x y : Operand) (ho : o.op = .index ty x y) (cs : Array Value) (i : Nat) (hx : a.eval x = .agg cs) (hy : a.eval y = .int .i64 i) (hi : i < 6) (v : Value) (hv : cs[i]? = some v)
    (ht : P.underlying ty = some (.array 6 e)) (he : P.underlying e = some (.interface ms)) (hs : (P.info? e).map (·.size) = some 1)
    (h : wpList P ops Q rest (a.put o.dst v) w) : wpList P ops Q (o :: rest) a w :=
  wpList_plain hgd fun K hK => by
    unfold Oper.wp execOp
    simp only [ho, hx, hy, Sem.run_bind, Sem.run_pure, Result.andThen_ok, index_iface ht he hs cs i hi v hv]
    exact hK _ _ h
set_option maxRecDepth 100000 in
set_option maxHeartbeats 1000000 in
theorem rows_any (r c : Int) (f : Nat → Int) (hf : VW f) (w : World) : Calls Try.prog 152 #[MV r c f] w fun e w' => e = .returned (.agg (IL 6 f).toArray) ∧ Below w.heap.size w w' := by
  go_enter Try.func152, Try.ntmps152
  go_upto_region 2 with fail
  obtain ⟨a1, a2, a3, a4, a5⟩ := new3 w (.cells (CL r c f).toArray 33) (.cells (IL 0 f).toArray 145) (.cells (IL 0 f).toArray 145)
  rw [IL_zero f]
  obtain ⟨g, hg⟩ : ∃ g, g = w.heap.size := ⟨_, rfl⟩
  rw [← hg] at a1 a2 a3 a4 a5 ⊢
  generalize World.alloc (World.alloc (World.alloc w _) _) _ = w2 at a1 a2 a3 a4 a5 ⊢
  replace a1 : MB w2 g 33 r c f := a1
  replace a2 : IB w2 (g + 1) 0 f := a2
  replace a3 : IB w2 (g + 1 + 1) 0 f := a3
  have HF := Lib.hid hf
  have HG := Lib.hid hg
  clear hg hf a5
  have r1 := a1.grid
  go_upto_region 3 with (first | (guard_target =~ wpList _ _ _ (⟨_, Op.load 31 (Operand.tmp 6), _, _, _, _⟩ :: _) _ _; refine wpList_load_mid rfl 31 _ rfl (g) _ rfl (TL 36 f) (.array 6 30) (r1) (by kernel_rfl) rfl (by kernel_rfl) ?_))
  go_loopw [8] (fun p wr => ∃ (k : Nat), p = .int .i64 k ∧ k ≤ 6 ∧ IB wr (g + 1) 0 f ∧ IB wr (g + 1 + 1) k f ∧ Hid (Below g w wr)) (fun p _ => (6 - intOf p).toNat)
  case atStart => exact ⟨0, rfl, by omega, a2, a3, Lib.hid a4⟩
  case round =>
    clear a1 a2 a3 a4 r1
    obtain ⟨k, rfl, hk, h2, h3, hb⟩ := hrel
    by_cases hlt : k < 6
    · have T1 : decide ((k : Int) < 6) = true := by simp; omega
      have k1 : (k : Int) < 6 := by omega
      go_upto_region 5 with (first | (guard_target =~ wpList _ _ _ (⟨_, Op.index 31 _ _, _, _, _, _⟩ :: _) _ _; refine wpList_index_row rfl 31 _ _ rfl f k rfl rfl hlt (r := 30) (e := 29) (by kernel_rfl) (by kernel_rfl) (by kernel_rfl) ?_) | (guard_target =~ wpList _ _ _ (⟨_, Op.store 30 _ _, _, _, _, _⟩ :: _) _ _; refine wpList_store_fresh (cells := (TL 6 fun j => f (k * 6 + j)).toArray) rfl 30 _ _ rfl rfl rfl (by kernel_rfl) rfl (TL_one _ _) ?_))
      have n2 : IB (wr.alloc (.cells (TL 6 fun j => f (k * 6 + j)).toArray 30)) (g + 1) 0 f := (heap_alloc_old _ _ h2.lt).trans h2
      have n3 : IB (wr.alloc (.cells (TL 6 fun j => f (k * 6 + j)).toArray 30)) (g + 1 + 1) k f := (heap_alloc_old _ _ h3.lt).trans h3
      have n4 : RB (wr.alloc (.cells (TL 6 fun j => f (k * 6 + j)).toArray 30)) wr.heap.size 30 6 (fun j => f (k * 6 + j)) := heap_alloc_last _ _
      have n5 := hb.out.alloc (show g ≤ wr.heap.size by have := h3.lt; omega) (.cells (TL 6 fun j => f (k * 6 + j)).toArray 30)
      obtain ⟨g4, hg4⟩ : ∃ g4, g4 = wr.heap.size := ⟨_, rfl⟩
      rw [← hg4] at n4 ⊢
      generalize wr.alloc (.cells (TL 6 fun j => f (k * 6 + j)).toArray 30) = w5 at n2 n3 n4 n5 ⊢
      clear h2 h3 hb hg4
      go_wp2_with (first | (guard_target =~ wpList _ _ _ (⟨_, Op.load 30 (Operand.tmp 5), _, _, _, _⟩ :: _) _ _; refine wpList_load_row rfl 30 _ rfl (g4) rfl _ (TL 6 fun j => f (k * 6 + j)).toArray (0, 0) (.array 6 29) (n4) (by kernel_rfl) rfl (by kernel_rfl) ?_))
      refine (rowOf_any (fun j => f (k * 6 + j)) (fun t => HF.out _) _).mono ?_
      rintro e wn ⟨rfl, hn⟩
      replace n5 := bnext n5 hn (by have := n2.lt; omega)
      replace n2 := n2.below hn n2.lt
      replace n3 := n3.below hn n3.lt
      have c1 := n3.cell k hlt
      rw [if_neg (Nat.lt_irrefl k)] at c1
      have c2 := n3.free k
      obtain ⟨tt, vv, hI⟩ : ∃ t v, rowV (fun j => f (k * 6 + j)) = .iface t v := by unfold rowV; split <;> exact ⟨_, _, rfl⟩
      rw [hI]
      have HI := Lib.hid hI
      clear hI
      have N2 := Lib.hid n2; have N3 := Lib.hid n3
      clear hn n4 n2 n3
      go_wp2_with fail
      exact ⟨⟨k + 1, rfl, by omega, (heap_setCell_other _ _ _ _ (by simp)).trans N2.out, (HI.out ▸ N3.out.put hlt : IB (wn.setCell ⟨g + 1 + 1, k, none⟩ (.iface tt vv)) (g + 1 + 1) (k + 1) f), Lib.hid (n5.setCell (p := ⟨g + 1 + 1, k, none⟩) (by simp; omega) _)⟩, by simp [intOf]; omega⟩
    · obtain rfl : k = 6 := by omega
      have T1 : decide (((6 : Nat) : Int) < 6) = false := by simp
      go_wp2_with (first | (guard_target =~ wpList _ _ _ (⟨_, Op.load 145 _, _, _, _, _⟩ :: _) _ _; refine wpList_load_row rfl 145 _ rfl (g + 1 + 1) rfl _ (IL 6 f).toArray (0, 0) (.array 6 144) h3 (by kernel_rfl) rfl (by kernel_rfl) ?_) | (guard_target =~ wpList _ _ _ (⟨_, Op.store 145 _ _, _, _, _, _⟩ :: _) _ _; refine wpList_store_row rfl 145 _ _ rfl (g + 1) (IL 6 f).toArray rfl rfl _ _ h2 (by kernel_rfl) rfl (IL_one _ _) ?_))
      refine bodyPost_ret (v := .agg (IL 6 f).toArray) ?_ rfl ⟨rfl, by obtain rfl := HG.out; exact Below.setRow hb.out (by omega) _⟩
      refine results_cell_row rfl _ _ (g + 1) _ _ (0, 0) (.array 6 144) rfl (setRow_heap _ _ _ _ _ _ h2) (by kernel_rfl) rfl (by kernel_rfl)

def applyF (f x : Nat → Int) : Nat → Int := fun i => dotI (fun k => f (i * 6 + k)) x 6
theorem applyF_b {f x : Nat → Int} (hf : VW f) (hx : VW x) : VW (applyF f x) := fun i => dotI_b (fun t => hf _) hx 6
set_option maxRecDepth 100000 in
set_option maxHeartbeats 1000000 in
theorem apply_any (r c : Int) (f x : Nat → Int) (hf : VW f) (hx : VW x) (w : World) : Calls Try.prog 116 #[MV r c f, VV x] w fun e w' => e = .returned (VV (applyF f x)) ∧ Below w.heap.size w w' := by
  have hm1 : ∀ (cs : Array Value) (w : World), (method (Try.prog.types.size + Made.depth) 153 (.agg cs) "loop.example/g01307/impl.times").run Try.prog w = .ok (207, .agg cs) w := fun _ _ => by kernel_rfl
  have hm2 : ∀ (cs : Array Value) (w : World), (method (Try.prog.types.size + Made.depth) 159 (.agg cs) "loop.example/g01307/impl.times").run Try.prog w = .ok (208, .agg cs) w := fun _ _ => by kernel_rfl
  go_enter Try.func116, Try.ntmps116
  go_upto_region 2 with fail
  obtain ⟨a1, a2, a3, a5, a4⟩ := new4 w (.cells (CL r c f).toArray 33) (.cells (TL 6 x).toArray 45) (.cells (TL 6 fun _ => 0).toArray 45) (.cells (TL 6 fun _ => 0).toArray 45)
  rw [zero6]
  obtain ⟨g, hg⟩ : ∃ g, g = w.heap.size := ⟨_, rfl⟩
  rw [← hg] at a1 a2 a3 a4 a5 ⊢
  generalize World.alloc (World.alloc (World.alloc (World.alloc w _) _) _) _ = w2 at a1 a2 a3 a4 a5 ⊢
  replace a1 : MB w2 g 33 r c f := a1
  replace a2 : RB w2 (g + 1) 45 6 x := a2
  replace a3 : RB w2 (g + 1 + 1) 45 6 (fun _ => 0) := a3
  replace a5 : RB w2 (g + 1 + 1 + 1) 45 6 (fun _ => 0) := a5
  have HF := Lib.hid hf
  have HX := Lib.hid hx
  have HG := Lib.hid hg
  clear hg hf hx
  go_wp2_with (first | (guard_target =~ wpList _ _ _ (⟨_, Op.load 33 (Operand.tmp 2), _, _, _, _⟩ :: _) _ _; refine wpList_load_row rfl 33 _ rfl (g) rfl _ (CL r c f).toArray (0, 0) _ a1 Try.underlying33 rfl (by kernel_rfl) ?_))
  refine (rows_any r c f HF.out _).mono ?_
  rintro e wn ⟨rfl, hn⟩
  replace a4 := bnext a4 hn (by have := a1.lt; omega)
  replace a2 := a2.below hn a2.lt
  replace a3 := a3.below hn a3.lt
  replace a5 := a5.below hn a5.lt
  clear hn a1
  go_wp2_with fail
  go_loopw [10] (fun p wr => ∃ (k : Nat), p = .int .i64 k ∧ k ≤ 6 ∧ RB wr (g + 1) 45 6 x ∧ RB wr (g + 1 + 1) 45 6 (fun _ => 0) ∧ RB wr (g + 1 + 1 + 1) 45 6 (mix k (applyF f x) fun _ => 0) ∧ Hid (Below g w wr)) (fun p _ => (6 - intOf p).toNat)
  case atStart => exact ⟨0, rfl, by omega, a2, a3, a5.ext (fun s _ => by rw [mix_zero]), Lib.hid a4⟩
  case round =>
    clear a2 a3 a4 a5
    obtain ⟨k, rfl, hk, h2, h3, h5, hb⟩ := hrel
    by_cases hlt : k < 6
    · have T1 : decide ((k : Int) < 6) = true := by simp; omega
      have k1 : (k : Int) < 6 := by omega
      have ix : (IL 6 f).toArray[k]? = some (rowV fun j => f (k * 6 + j)) := by rw [List.getElem?_toArray, IL_at 6 f k hlt, if_pos hlt]
      by_cases hp : firstI (fun j => f (k * 6 + j)) < 6
      · have hR : rowV (fun j => f (k * 6 + j)) = .iface 153 (.agg (LRC (firstI fun j => f (k * 6 + j)) fun j => f (k * 6 + j)).toArray) := by unfold rowV; rw [if_pos hp]
        rw [hR] at ix
        clear hR
        go_wp2_with (first | (guard_target =~ wpList _ _ _ (⟨_, Op.index 145 _ _, _, _, _, _⟩ :: _) _ _; refine wpList_index_iface (e := 144) rfl 145 _ _ rfl (IL 6 f).toArray k rfl rfl hlt _ ix (by kernel_rfl) Try.underlying144 (by kernel_rfl) ?_) | guard_target =~ wpList _ _ _ (⟨_, Op.load 45 (Operand.tmp 3), _, _, _, _⟩ :: _) _ _; refine wpList_load_row rfl 45 _ rfl (g + 1) rfl _ (TL 6 x).toArray (0, 0) (.array 6 29) (h2) (by kernel_rfl) rfl (by kernel_rfl) ?_)
        refine (leadTimes_any _ (firstI_le _) (fun j => f (k * 6 + j)) x (fun t => HF.out _) HX.out (fun j hj => firstI_before (fun t => HF.out _) j hj (by omega)) _).mono ?_
        rintro e wn ⟨rfl, hn⟩
        replace hb := Lib.hid (bnext hb.out hn (by have := h2.lt; omega))
        replace h2 := h2.below hn h2.lt
        replace h3 := h3.below hn h3.lt
        replace h5 := h5.below hn h5.lt
        have c1 := h5.cell k hlt
        rw [mix_at] at c1
        have c2 := h5.free k
        have H2 := Lib.hid h2; have H3 := Lib.hid h3; have H5 := Lib.hid h5
        clear hn h2 h3 h5 ix
        go_wp2_with fail
        exact ⟨⟨k + 1, rfl, by omega, H2.out.other (by omega) _, H3.out.other (by omega) _, (H5.out.put k hlt _).ext (fun s _ => congrFun (mix_step k (applyF f x) (fun _ => 0) _ rfl) s), Lib.hid (hb.out.setCell (p := ⟨g + 1 + 1 + 1, k, none⟩) (by simp; omega) _)⟩, by simp [intOf]; omega⟩
      · have hR : rowV (fun j => f (k * 6 + j)) = .iface 159 (.agg #[]) := by unfold rowV; rw [if_neg hp]
        have hZ : applyF f x k = 0 := dotI_zero 6 (fun j hj => firstI_before (v := fun j => f (k * 6 + j)) (fun t => HF.out _) j (by have := firstI_le (fun j => f (k * 6 + j)); omega) hj)
        have HZ := Lib.hid hZ
        rw [hR] at ix
        clear hR hZ
        go_wp2_with (first | (guard_target =~ wpList _ _ _ (⟨_, Op.index 145 _ _, _, _, _, _⟩ :: _) _ _; refine wpList_index_iface (e := 144) rfl 145 _ _ rfl (IL 6 f).toArray k rfl rfl hlt _ ix (by kernel_rfl) Try.underlying144 (by kernel_rfl) ?_) | guard_target =~ wpList _ _ _ (⟨_, Op.load 45 (Operand.tmp 3), _, _, _, _⟩ :: _) _ _; refine wpList_load_row rfl 45 _ rfl (g + 1) rfl _ (TL 6 x).toArray (0, 0) (.array 6 29) (h2) (by kernel_rfl) rfl (by kernel_rfl) ?_)
        refine (zeroTimes_any x _).mono ?_
        rintro e wn ⟨rfl, hn⟩
        replace hb := Lib.hid (bnext hb.out hn (by have := h2.lt; omega))
        replace h2 := h2.below hn h2.lt
        replace h3 := h3.below hn h3.lt
        replace h5 := h5.below hn h5.lt
        have c1 := h5.cell k hlt
        rw [mix_at] at c1
        have c2 := h5.free k
        have H2 := Lib.hid h2; have H3 := Lib.hid h3; have H5 := Lib.hid h5
        clear hn h2 h3 h5 ix
        go_wp2_with fail
        exact ⟨⟨k + 1, rfl, by omega, H2.out.other (by omega) _, H3.out.other (by omega) _, (H5.out.put k hlt _).ext (fun s _ => congrFun (mix_step k (applyF f x) (fun _ => 0) _ HZ.out.symm) s), Lib.hid (hb.out.setCell (p := ⟨g + 1 + 1 + 1, k, none⟩) (by simp; omega) _)⟩, by simp [intOf]; omega⟩
    · obtain rfl : k = 6 := by omega
      have T1 : decide (((6 : Nat) : Int) < 6) = false := by simp
      have h5' := h5.ext (f' := applyF f x) (fun s hs => by rw [mix_new _ _ hs])
      clear h5
      go_wp2_with (first | (guard_target =~ wpList _ _ _ (⟨_, Op.load 45 (Operand.tmp 5), _, _, _, _⟩ :: _) _ _; refine wpList_load_row rfl 45 _ rfl (g + 1 + 1 + 1) rfl _ (TL 6 (applyF f x)).toArray (0, 0) (.array 6 29) (h5') (by kernel_rfl) rfl (by kernel_rfl) ?_) | (guard_target =~ wpList _ _ _ (⟨_, Op.store 45 (Operand.tmp 4) _, _, _, _, _⟩ :: _) _ _; refine wpList_store_row rfl 45 _ _ rfl (g + 1 + 1) (TL 6 (applyF f x)).toArray rfl rfl _ _ (h3) (by kernel_rfl) rfl (TL_one _ _) ?_))
      refine bodyPost_ret (v := VV (applyF f x)) ?_ rfl ⟨rfl, by obtain rfl := HG.out; exact Below.setRow hb.out (by omega) _⟩
      exact results_cell_row rfl _ _ (g + 1 + 1) _ _ (0, 0) (.array 6 29) rfl (h3.setRow (applyF f x)) (by kernel_rfl) rfl (by kernel_rfl)
end Go.Proofs.Ytjbaeomjinnlhaa
