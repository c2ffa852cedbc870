/-
  The word at a place, of the program (a range over slices.Backward that writes what it ranges over).
-/
import Derived.RangeFuncBox
import Derived.RangeFuncLeaves
import Derived.Shelf.Abstract
import Derived.WalkKit
import Derived.OwnWalkIn
import Derived.TacticsInMore
import Derived.LoopNIn
import Derived.LoopIn
import Derived.Deep.RegionWith
import Derived.Stop.RegionWithIn
import Derived.RangeFuncCalls
import Derived.OrdersIn
import Derived.OrdersHeld
import Derived.Test.YthhjhfkcgokffaaWq
namespace Go.Proofs.Ythhjhfkcgokffaa
set_option linter.unusedVariables false
set_option linter.unusedSimpArgs false
open Go.ChangeShapes Go.WideShapes Go.ChangeAt Go.RowKit Go.Shelf
attribute [local go_sem] Oper.semAt_some

/-! a held region, inside a round -/
theorem wpIn_of_wp_round {l n : Nat} {P : Program} {o : Oper} {a : Act} {w : World} {K : Act → World → Prop} {Q : Exit → Act → World → Prop} (hs : o.semAt (some l) a.eval = execOp a.eval o)
    (h : o.wp P a w K Q) : o.wpIn (Fence.wide.inRound l) n P a w K Q := by
  unfold Oper.wp at h
  unfold Oper.wpIn
  refine ⟨fun f _ => trivial, ?_⟩
  rw [Fence.inRound_round, hs]
  generalize (execOp a.eval o).run P w = r at h
  cases r with
  | ok x w' =>
    cases x <;> simp only [Oper.upon, Oper.uponIn] at h ⊢ <;>
      first
        | exact h
        | exact ⟨fun e => (by rw [Fence.inRound_depth] at e; exact absurd e (by decide)), CallsIn.inRound l (callsIn_wide.2 h)⟩
        | exact ⟨fun e => (by rw [Fence.inRound_depth] at e; exact absurd e (by decide)), fun c cs _ => let ⟨v, w', r, s⟩ := h c cs; ⟨v, w', r, stepsIn_wide.2 s⟩⟩
  | halt x w' => cases x <;> simp only [Oper.upon, Oper.uponIn] at h ⊢ <;> exact h
theorem wpOpIn_of_wpOp {l n : Nat} {P : Program} {ops : Array Oper} {Q : Exit → Act → World → Prop} (hL : ¬ LetsOut Q) (hs : ∀ o ∈ ops, ∀ c, o.op ≠ .defer c) {i : Nat} {K K' : Act → World → Prop} (hK : ∀ a w, K a w → K' a w) {a : Act} {w : World}
    (h : wpOp P ops Q i K a w) : wpOpIn (Fence.wide.inRound l) n P ops Q i K' a w := by
  refine wpOpIn_mono hK ?_
  unfold wpOp at h
  unfold wpOpIn
  cases ho : ops[i]? with
  | none => simpa [ho] using h
  | some o =>
    simp only [ho] at h ⊢
    have hm : o ∈ ops := Array.mem_of_getElem? ho
    split
    · rename_i hw
      rw [if_pos hw] at h
      rcases h with h | ⟨_, h⟩
      · exact wpIn_of_wp_round (Oper.semAt_some l _ _ (hs o hm)) h
      · exact absurd h hL
    · rename_i hw
      rw [if_neg hw] at h
      exact ⟨fun f _ => trivial, h⟩
theorem wpAnyIn_of_wpAny {l n : Nat} {P : Program} {md : Region.Mode} {ops : Array Oper} {Q : Exit → Act → World → Prop} (hL : ¬ LetsOut Q) (hs : ∀ o ∈ ops, ∀ c, o.op ≠ .defer c) :
    ∀ (fuel : Nat) (listed : Array Bool) (a : Act) (w : World), wpAny P md ops Q fuel listed a w → wpAnyIn (Fence.wide.inRound l) n P md ops Q fuel listed a w
  | 0, _, _, _, h => h
  | fuel + 1, _, _, _, h => ⟨h.1, fun i hi => wpOpIn_of_wpOp hL hs (fun a w hh => wpAnyIn_of_wpAny hL hs fuel _ a w hh) (h.2 i hi)⟩
def noDefer (ops : Array Oper) : Bool := ops.all fun o => match o.op with | .defer _ => false | _ => true
theorem noDefer_spec {ops : Array Oper} (h : noDefer ops = true) : ∀ o ∈ ops, ∀ c, o.op ≠ .defer c := by
  intro o ho c hc
  unfold noDefer at h
  rw [Array.all_eq_true_iff_forall_mem] at h
  have := h o ho
  rw [hc] at this
  cases this
def postN (A : Act) (R : World → Prop) : Exit → Act → World → Prop
  | .normal, a, w => a = A ∧ R w
  | _, _, _ => False
/-- a region that draws its order, in a round, walked held for a post of its own -/
theorem region_round {l n id : Nat} {P : Program} {ops : Array Oper} {Q : Exit → Act → World → Prop} {a : Act} {w : World} (A : Act) (R : World → Prop) (S : World → Prop)
    (hm : P.follows .mixedOrders = true) (hs : noDefer ops = true) (hS : S w.drew)
    (h : S w.drew → wpAnyH P .any ops (postN A R) S ops.size (Array.replicate ops.size false) a w.drew)
    (h2 : ∀ w', R w' → Q .normal A w') : (Code.region id ops true).wpIn (Fence.wide.inRound l) n P Q a w := by
  refine Code.wpIn_mono (Q := postN A R) (fun x a' w' hx => ?_) ?_
  · cases x with
    | normal => obtain ⟨rfl, hr⟩ := hx; exact h2 w' hr
    | _ => exact hx.elim
  · refine wpIn_region_any hm ?_
    refine wpAnyIn_of_wpAny ?_ (noDefer_spec hs) _ _ _ _ (wpAny_of_held _ _ _ _ (h hS))
    rintro ⟨_, _, e⟩
    exact e
/-- and outside of one -/
theorem region_wide {n id : Nat} {P : Program} {ops : Array Oper} {Q : Exit → Act → World → Prop} {a : Act} {w : World} (A : Act) (R : World → Prop) (S : World → Prop)
    (hm : P.follows .mixedOrders = true) (hS : S w.drew)
    (h : S w.drew → wpAnyH P .any ops (postN A R) S ops.size (Array.replicate ops.size false) a w.drew)
    (h2 : ∀ w', R w' → Q .normal A w') : (Code.region id ops true).wpIn Fence.wide n P Q a w := by
  refine Code.wpIn_mono (Q := postN A R) (fun x a' w' hx => ?_) ?_
  · cases x with
    | normal => obtain ⟨rfl, hr⟩ := hx; exact h2 w' hr
    | _ => exact hx.elim
  · exact wpIn_wide.2 (wp_region_held_drew hm hS h)
theorem cell_far {u : World} {b o g i : Nat} {v x : Value} (hb : g ≠ b) (h : u.cell? ⟨b, o, none⟩ = some x) : (u.setCell ⟨g, i, none⟩ v).cell? ⟨b, o, none⟩ = some x :=
  (World.cell?_setCell_far u ⟨g, i, none⟩ ⟨b, o, none⟩ v hb).trans h
theorem wpListIn_make_full {F : Fence} {n : Nat} {P : Program} (w : World) {ops : Array Oper} {rest : List Oper} {o : Oper} {a : Act} {Q : Exit → Act → World → Prop}
    (hg : o.guard = none) (l c : Operand) (t : TypeId) (hop : o.op = Op.makeSlice t l c)
    (base : Nat) (e : TypeId) (i : TypeInfo) (z : Value) (size : Nat) (h1 : P.underlying t = some (.slice e)) (h2 : P.info? e = some i) (h3 : i.zero = some z) (h4 : i.size = size)
    (kl kc : IntKind) (L C : Int) (m : Nat) (hl : a.eval l = .int kl L) (hc : a.eval c = .int kc C) (hL : L = (m : Int)) (hC : C = (m : Int)) (b2 : i.bytes * m ≤ 281474976710656) (b3 : m ≤ maxLen) (b4 : base ≤ w.heap.size)
    (hK : ∀ w', w'.ownsRow base e size (.slice (some ⟨w.heap.size, 0, none⟩) m m) m (madeCells z.cells (m * size)).toList → w.grownBy w' none → wpListIn F n P ops Q rest (a.put o.dst (.slice (some ⟨w.heap.size, 0, none⟩) m m)) w') :
    wpListIn F n P ops Q (o :: rest) a w := by
  refine wpListIn_plain hg fun K hK' => ?_
  obtain ⟨w', hrun, r1, r2⟩ := run_make_full (P := P) w base t e i z size h1 h2 h3 h4 kl kc m b2 b3 b4
  subst hL
  subst hC
  unfold Oper.wpIn
  refine ⟨?_, ?_⟩
  · simp [Oper.about, hop]
  · rw [Oper.semAt_plain F _ _ (by rw [hop]; intro c hc'; cases hc')]
    simp [execOp, hop, hl, hc, hrun, Result.andThen]
    exact hK' _ _ (hK w' r1 r2)

theorem rw_own (g : Nat) {β : Type} (f : β → List Int) : Own (fun s W => RW W g (f s)) := by
  intro s W W' row h hg hr
  refine (hg.block g h.lt ?_).trans h
  intro e
  obtain ⟨o, ho, hc⟩ := hr g e.symm
  have : W.heap[g]? = some (.cells (u16s (f s)).toArray 39 (0, 0)) := h
  rw [this] at ho
  cases ho
  cases hc
theorem cell_same {W W' : World} {b o : Nat} (h : W'.heap[b]? = W.heap[b]?) : W'.cell? ⟨b, o, none⟩ = W.cell? ⟨b, o, none⟩ := by
  unfold World.cell?
  rw [h]
theorem backward_in (n : Nat) (A : Option Addr) (k c : Nat) (w : World) :
    CallsIn Fence.wide n Try.prog 136 #[.slice A k c] w fun e w' => e = .returned (.func (.func 157) #[] #[.pointer (some ⟨w.heap.size, 0, none⟩)]) ∧ w' = w.alloc (.cells #[.slice A k c] 25) := by
  refine callsIn_of_wp Try.func136 rfl trivial ?_ rfl
  simp only [Try.ntmps136, List.size_toArray, List.length_cons, List.length_nil, Nat.reduceAdd, Nat.reduceSub, Array.replicate_succ, Array.replicate_zero, List.push_toArray, List.append_toArray, List.nil_append, List.cons_append]
  gi_wp2
  go_ret
  exact ⟨rfl, rfl⟩
theorem boxed_own {β : Type} (B : Nat) (t : TypeId) (f : β → Value) : Own (fun s W => Boxed W B t (f s)) := by
  intro s W W' row h hg hr
  refine h.kept hg ?_
  intro e
  obtain ⟨o, ho, hc⟩ := hr B e.symm
  have : W.heap[B]? = some (.cells #[f s] t (0, 0)) := h
  rw [this] at ho
  cases ho
  simp [Obj.isCells] at hc
theorem boxed_far {W : World} {B g i : Nat} {t : TypeId} {v x : Value} (h : Boxed W B t v) (hne : B ≠ g) : Boxed (W.setCell ⟨g, i, none⟩ x) B t v :=
  (Below.heap_setCell _ _ _ _ hne).trans h
def descK (m j : Nat) : List Nat := (List.range j).map fun i => m - 1 - i
theorem descK_snoc (m j : Nat) : descK m (j + 1) = descK m j ++ [m - 1 - j] := by unfold descK; rw [List.range_succ, List.map_append]; rfl
/-! slices.Backward over cells that turn in the rounds -/
def QN (W : World) (g m : Nat) : Prop := ∃ zs, zs.length = m ∧ inU zs ∧ RW W g zs
def KpQ (Bn g m : Nat) (W W' : World) : Prop := W'.heap[Bn]? = W.heap[Bn]? ∧ (QN W g m → QN W' g m)
theorem KpQ.trans {Bn g m : Nat} {X Y Z : World} (a : KpQ Bn g m X Y) (b : KpQ Bn g m Y Z) : KpQ Bn g m X Z := ⟨b.1.trans a.1, fun h => b.2 (a.2 h)⟩
theorem KpQ.put {Bn g m : Nat} (W : World) (l : Nat) (o : Obj) (h1 : Bn < l) (h2 : g < l) : KpQ Bn g m W (W.putObj l o) :=
  ⟨World.putObj_heap_other (by omega), fun ⟨zs, e, hu, hr⟩ => ⟨zs, e, hu, (World.putObj_heap_other (by omega)).trans hr⟩⟩
set_option maxRecDepth 100000 in
set_option maxHeartbeats 2000000 in
theorem back1q_in (n l Bn g m : Nat) (hn : 1 ≤ n) (hz : m ≤ 1048576) (J Jx : List (Nat × Int) → World → Prop)
    (hY : ∀ pre x W, J pre W → pre.length < m → YieldAt Fence.wide (n - 1) Try.prog l #[.int .i64 ((x.1 % m : Nat) : Int), .int .u16 (x.2 % 65536)] W fun e W' =>
      (e = .returned (.bool true) ∧ J (pre ++ [x]) W' ∧ KpQ Bn g m W W') ∨ (e = .returned (.bool false) ∧ Jx (pre ++ [x]) W'))
    (W : World) (hBn : W.cell? ⟨Bn, 0, none⟩ = some (.slice (some ⟨g, 0, none⟩) m m)) (hQ : QN W g m) (h0 : J [] W) :
    CallsIn Fence.wide n Try.prog 157 #[.func (.yield l) #[] #[], .pointer (some ⟨Bn, 0, none⟩)] W fun e W' => (∃ v, e = .returned v) ∧
      ((∃ ys : List (Nat × Int), ys.map (·.1) = descK m m ∧ J ys W') ∨ (∃ pre, True ∧ Jx pre W')) := by
  have HY := Lib.hid hY
  have HQ := Lib.hid hQ
  clear hY hQ
  refine callsIn_of_wp Try.func157 rfl trivial ?_ rfl
  simp only [Try.ntmps157, List.size_toArray, List.length_cons, List.length_nil, Nat.reduceAdd, Nat.reduceSub, Array.replicate_succ, Array.replicate_zero, List.push_toArray, List.append_toArray, List.nil_append, List.cons_append]
  gi_wp2
  gi_loopw [3] (fun y wr => ∃ k : Nat, y = .int .i64 ((m : Int) - 1 - (k : Int)) ∧ k ≤ m ∧ (∃ pre : List (Nat × Int), pre.map (·.1) = descK m k ∧ J pre wr) ∧ wr.cell? ⟨Bn, 0, none⟩ = some (.slice (some ⟨g, 0, none⟩) m m) ∧ Hid (QN wr g m))
    (fun y wr => (intOf y + 1).toNat)
  case atStart => exact ⟨0, by first | rfl | simp, Nat.zero_le _, ⟨[], rfl, h0⟩, hBn, HQ⟩
  case round =>
    clear h0 hBn HQ
    obtain ⟨k, rfl, hk, ⟨pre, hpre, hJ⟩, hc, HQ⟩ := hrel
    by_cases hlt : k < m
    · obtain ⟨t, ht⟩ : ∃ t, t = m - 1 - k := ⟨_, rfl⟩
      have hmi : (m : Int) - 1 - (k : Int) = (t : Int) := by omega
      obtain ⟨zs, hzl, hzu, hrw⟩ := HQ.out
      have q1 : wr.cell? ⟨g, t, none⟩ = _ := hrw.cell t (by omega)
      have i1 : (t : Int) < (m : Int) := by omega
      have T1 : decide (0 ≤ (t : Int)) = true := by simp
      obtain ⟨x, hx⟩ : ∃ x, x = zs.getD t 0 := ⟨_, rfl⟩
      have hxu : x % 65536 = x := by
        have hr := hzu.at t
        rw [← hx] at hr
        omega
      rw [← hx] at q1
      rw [← hxu] at q1
      have hpl : pre.length = k := by have e := congrArg List.length hpre; simpa [descK] using e
      have hyy := HY.out pre (t, x) wr hJ (by omega)
      rw [show ((t, x) : Nat × Int).1 = t from rfl, show ((t, x) : Nat × Int).2 = x from rfl, show t % m = t from Nat.mod_eq_of_lt (by omega)] at hyy
      obtain ⟨fn, tmps, assign, body, hy, hR⟩ := hyy
      have hsn : (pre ++ [((t, x) : Nat × Int)]).map (·.1) = descK m (k + 1) := by rw [List.map_append, hpre, descK_snoc, ← ht]; rfl
      have HSN := Lib.hid hsn
      have hnx : (t : Int) - 1 = (m : Int) - 1 - ((k + 1 : Nat) : Int) := by omega
      have HNX := Lib.hid hnx
      have hms : (t : Int) + 1 = (m : Int) - (k : Int) := by omega
      rw [hmi]
      clear hsn ht hmi hnx hx hxu hrw hpre hzl hzu
      gi_wp2
      refine hR.mono ?_
      rintro e W3 (⟨rfl, hJ3, hk3⟩ | ⟨rfl, hJx3⟩)
      · have hc3 : W3.cell? ⟨Bn, 0, none⟩ = some (.slice (some ⟨g, 0, none⟩) m m) := (cell_same hk3.1).trans hc
        have HQ3 := Lib.hid (hk3.2 HQ.out)
        clear hJ hk3 hy hR hc HQ q1
        gi_wp2
        go_roundw
        case rel => exact ⟨k + 1, by rw [← HNX.out], by omega, ⟨_, HSN.out, hJ3⟩, hc3, HQ3⟩
        case measure => first | (simp [intOf]; done) | (simp [intOf]; omega)
      · gi_wp2
        first | go_end0 | refine bodyPost_ret (results_none rfl _ _ _) rfl ?_
        exact ⟨⟨_, rfl⟩, .inr ⟨_, trivial, hJx3⟩⟩
    · obtain rfl : k = m := by omega
      have T1 : decide (0 ≤ (k : Int) - 1 - (k : Int)) = false := by simp; omega
      gi_wp2
      first | go_end0 | refine bodyPost_ret (results_none rfl _ _ _) rfl ?_
      exact ⟨⟨_, rfl⟩, .inl ⟨_, hpre, hJ⟩⟩

/-! what the rounds make -/
def stepW (b : Int) (N : Nat) (st : Int × (Nat → Int)) (p : Nat × Int) : Int × (Nat → Int) := (st.1 / b, put st.2 (p.1 % N) (st.1 % b))
def waS (b p : Int) (N : Nat) (ys : List (Nat × Int)) : Int × (Nat → Int) := ys.foldl (stepW b N) (p, fun _ => 0)
theorem waS_snoc (b p : Int) (N : Nat) (ys : List (Nat × Int)) (y : Nat × Int) : waS b p N (ys ++ [y]) = stepW b N (waS b p N ys) y := by unfold waS; rw [List.foldl_append]; rfl
theorem waS_b {b p : Int} (hb : baB b = true) (N : Nat) (h0 : 0 ≤ p) (h1 : p ≤ 9223372036854775807) (ys : List (Nat × Int)) : (0 ≤ (waS b p N ys).1 ∧ (waS b p N ys).1 ≤ 9223372036854775807) ∧ (∀ s, 0 ≤ (waS b p N ys).2 s ∧ (waS b p N ys).2 s < 65536) := by
  have main : ∀ (ys : List (Nat × Int)) (st : Int × (Nat → Int)), ((0 ≤ st.1 ∧ st.1 ≤ 9223372036854775807) ∧ (∀ s, 0 ≤ st.2 s ∧ st.2 s < 65536)) →
      ((0 ≤ (ys.foldl (stepW b N) st).1 ∧ (ys.foldl (stepW b N) st).1 ≤ 9223372036854775807) ∧ (∀ s, 0 ≤ (ys.foldl (stepW b N) st).2 s ∧ (ys.foldl (stepW b N) st).2 s < 65536)) := by
    intro ys
    induction ys with
    | nil => exact fun st h => h
    | cons y ys ih =>
      intro st h
      refine ih _ ⟨?_, fun s => ?_⟩
      · show 0 ≤ st.1 / b ∧ st.1 / b ≤ 9223372036854775807
        have := h.1
        rcases baB_cases hb with rfl | rfl | rfl | rfl <;> omega
      · show 0 ≤ put st.2 (y.1 % N) (st.1 % b) s ∧ put st.2 (y.1 % N) (st.1 % b) s < 65536
        unfold put
        split
        · rcases baB_cases hb with rfl | rfl | rfl | rfl <;> omega
        · exact h.2 s
  exact main ys _ ⟨⟨h0, h1⟩, fun s => by show (0 : Int) ≤ 0 ∧ (0 : Int) < 65536; decide⟩
theorem waS_end (b p : Int) (N : Nat) : ∀ j, j ≤ N → ∀ ys : List (Nat × Int), ys.map (·.1) = descK N j → (waS b p N ys).1 = pd b p j ∧ tab N (waS b p N ys).2 = tab N (waK b p N j)
  | 0, _, ys, h => by
    have e : ys = [] := by cases ys with
      | nil => rfl
      | cons y ys => simp [descK] at h
    subst e
    exact ⟨rfl, (waK_zero b p N).symm⟩
  | j + 1, hj, ys, h => by
    rw [descK_snoc] at h
    rcases List.eq_nil_or_concat ys with e | ⟨ys', q, e⟩
    · subst e; simp at h
    · rw [List.concat_eq_append] at e
      subst e
      rw [List.map_append] at h
      obtain ⟨e1, e2⟩ := List.append_inj' h rfl
      obtain ⟨i1, i2⟩ := waS_end b p N j (by omega) ys' e1
      have e3 : q.1 = N - 1 - j := by simpa using e2
      have e4 : q.1 % N = N - 1 - j := by rw [e3]; exact Nat.mod_eq_of_lt (by omega)
      rw [waS_snoc]
      unfold stepW
      rw [e4]
      refine ⟨?_, ?_⟩
      · show (waS b p N ys').1 / b = _
        rw [i1]; rfl
      · show tab N (put (waS b p N ys').2 (N - 1 - j) ((waS b p N ys').1 % b)) = _
        rw [← tab_set, i2, i1, waK_set b p N j (N - 1 - j) (by omega)]
/-- what the loop keeps -/
def WB (w : World) (h h9 N : Nat) (b x : Int) (T : Nat → Int) (W : World) : Prop :=
  Boxed W h 72 (.int .i64 b) ∧ Boxed W (h + 1) 2 (.int .i64 x) ∧ RW W (h + 2) (tab N T) ∧ Boxed W h9 25 (.slice (some ⟨h + 2, 0, none⟩) N N) ∧ Below h w W ∧ h9 + 2 ≤ W.heap.size
section
variable {w W : World} {h h9 N : Nat} {b x : Int} {T : Nat → Int}
theorem WB.ownFrom {β : Type} {B : Nat} (hw : h = w.heap.size) (hB : h ≤ B) (xs : β → Int) (Ts : β → Nat → Int) : OwnFrom B (fun s W => WB w h h9 N b (xs s) (Ts s) W) := by
  rintro s W W' row ⟨a1, a2, a3, a4, a5, a6⟩ hg hrow
  have hr2 := fun r e => (hrow r e).2
  exact ⟨boxed_own h _ (fun _ : β => Value.int .i64 b) s W W' row a1 hg hr2, boxed_own _ _ (fun s : β => Value.int .i64 (xs s)) s W W' row a2 hg hr2, rw_own _ (fun s => tab N (Ts s)) s W W' row a3 hg hr2,
    boxed_own _ _ (fun _ : β => Value.slice (some ⟨h + 2, 0, none⟩) N N) s W W' row a4 hg hr2, ownFrom_below (Nat.le_of_eq hw) hB s W W' row a5 hg hrow, Nat.le_trans a6 hg.size⟩
theorem WB.drew (d : WB w h h9 N b x T W) : WB w h h9 N b x T W.drew := by
  obtain ⟨a1, a2, a3, a4, a5, a6⟩ := d
  exact ⟨a1, a2, a3, a4, drew_b a5, a6⟩
theorem WB.setT (d : WB w h h9 N b x T W) (h5 : h + 2 < h9) (k : Nat) (z : Int) : WB w h h9 N b x (put T k z) (W.setCell ⟨h + 2, k, none⟩ (.int .u16 z)) := by
  obtain ⟨a1, a2, a3, a4, a5, a6⟩ := d
  refine ⟨boxed_far a1 (by omega), boxed_far a2 (by omega), ?_, boxed_far a4 (by omega), a5.setCell (p := ⟨h + 2, k, none⟩) (by show h ≤ h + 2; omega) _, by simpa [World.setCell] using a6⟩
  have := a3.set k z
  rwa [tab_set] at this
theorem WB.setX (d : WB w h h9 N b x T W) (h5 : h + 2 < h9) (y : Int) : WB w h h9 N b y T (W.setCell ⟨h + 1, 0, none⟩ (.int .i64 y)) := by
  obtain ⟨a1, a2, a3, a4, a5, a6⟩ := d
  exact ⟨boxed_far a1 (by omega), a2.set _, a3.other (by omega) _, boxed_far a4 (by omega), a5.setCell (p := ⟨h + 1, 0, none⟩) (by show h ≤ h + 1; omega) _, by simpa [World.setCell] using a6⟩
end
set_option maxHeartbeats 8000000 in
set_option maxRecDepth 100000 in
theorem wordAt_any (b : Int) (hb : baB b = true) (N : Nat) (hN0 : 1 ≤ N) (hN : N ≤ 7) (p : Int) (p0 : 0 ≤ p) (p1 : p ≤ 9223372036854775807) (w : World) :
    Calls Try.prog 94 #[.int .i64 b, .int .i64 (N : Int), .int .i64 p] w fun e w' => ∃ r, e = .returned r ∧ PO w' w.heap.size r (waL b p N) ∧ Below w.heap.size w w' := by
  obtain ⟨i0, hi, hz0, hz1, hz2⟩ := info_parts info25
  have HP := Lib.hid (waS_b (b := b) hb N p0 p1)
  have HS := Lib.hid (waS_snoc b p N)
  have HEND := Lib.hid (waS_end b p N N (Nat.le_refl _))
  have HIN := Lib.hid (waL_in (p := p) hb N)
  have H9 := Lib.hid (waK_end b p N)
  have HL := Lib.hid (waL_len b p N)
  obtain ⟨h, hhe⟩ : ∃ h, h = w.heap.size := ⟨_, rfl⟩
  have HHE := Lib.hid hhe
  clear hhe
  rcases baB_cases hb with rfl | rfl | rfl | rfl
  · refine (callsIn_wide (n := 12)).1 ?_
    refine callsIn_of_wp_marks Try.func94 rfl trivial ?_ rfl
    simp only [Try.ntmps94, List.size_toArray, List.length_cons, List.length_nil, Nat.reduceAdd, Nat.reduceSub, Array.replicate_succ, Array.replicate_zero, List.push_toArray, List.append_toArray, List.nil_append, List.cons_append]
    clear hb
    gi_wp2_with (gi_at_make; refine wpListIn_make_full _ rfl _ _ 25 rfl (h + 2) 39 i0 (.int .u16 0) 1 Try.underlying25 hi hz0 hz1 _ _ _ _ N rfl rfl rfl rfl (by rw [hz2]; omega) (by unfold maxLen; omega) (by rw [World.size_alloc, World.size_alloc, HHE.out]; exact Nat.le_refl _) ?_)
    intro w3 hown3 hgrow3
    obtain ⟨wp, hwp⟩ : ∃ wp, wp = ((w.alloc (.cells #[.int .i64 2] 72)).alloc (.cells #[.int .i64 p] 2)) := ⟨_, rfl⟩
    rw [← hwp] at hgrow3
    rw [made_tab, ← HHE.out] at hown3
    have hszp : wp.heap.size = h + 2 := by rw [hwp, HHE.out]; simp
    have hBp : Below h w wp := by rw [hwp, HHE.out]; exact ((Below.refl _ w).alloc (Nat.le_refl _) _).alloc (by simp) _
    have b0 : Boxed wp h 72 (.int .i64 2) := by rw [hwp, HHE.out]; exact (Boxed.new w _ _).alloc _
    have b1 : Boxed wp (h + 1) 2 (.int .i64 p) := by
      rw [hwp, HHE.out]
      have := Boxed.new (w.alloc (.cells #[.int .i64 2] 72)) 2 (.int .i64 p)
      rwa [World.size_alloc] at this
    have hq3 : RW w3 (h + 2) (tab N fun _ => 0) := RW.of_own hown3
    have hle3 : h + 3 ≤ w3.heap.size := hq3.lt
    have hB3 : Below (h + 2) wp w3 := (Below.refl (h + 2) wp).grown hgrow3 (by omega) (fun k hk => by cases hk)
    have k0 : Boxed w3 h 72 (.int .i64 2) := (hB3.block h (by omega)).trans b0
    have k1 : Boxed w3 (h + 1) 2 (.int .i64 p) := (hB3.block (h + 1) (by omega)).trans b1
    obtain ⟨h9, hh9⟩ : ∃ h9, h9 = w3.heap.size := ⟨_, rfl⟩
    have HH9 := Lib.hid hh9
    have HBP := Lib.hid (hBp.trans (hB3.mono (by omega)))
    have HK0 := Lib.hid k0
    have HK1 := Lib.hid k1
    have HQ3 := Lib.hid hq3
    have hle9 : h + 2 < h9 := by omega
    rw [← HHE.out]
    clear hown3 hgrow3 hwp hszp hBp b0 b1 hq3 hle3 hB3 k0 k1 hh9
    gi_wp2
    refine ⟨trivial, ?_⟩
    refine (backward_in _ _ _ _ _).mono ?_
    rintro e w' ⟨rfl, rfl⟩
    gi_wp2
    obtain ⟨w0, hw0⟩ : ∃ w0, w0 = ((w3.alloc (.cells #[.slice (some ⟨h + 2, 0, none⟩) N N] 25)).alloc (.cells #[.slice (some ⟨h + 2, 0, none⟩) N N] 25)) := ⟨_, rfl⟩
    rw [← HH9.out, ← hw0]
    have hB0 : Below h9 w3 w0 := by rw [hw0]; exact ((Below.refl h9 w3).alloc (Nat.le_of_eq HH9.out) _).alloc (by rw [World.size_alloc, ← HH9.out]; omega) _
    have hsz0 : w0.heap.size = h9 + 2 := by rw [hw0, HH9.out]; simp
    have bS : Boxed w0 (h9 + 1) 25 (.slice (some ⟨h + 2, 0, none⟩) N N) := by
      have := Boxed.new (w3.alloc (.cells #[.slice (some ⟨h + 2, 0, none⟩) N N] 25)) 25 (.slice (some ⟨h + 2, 0, none⟩) N N)
      rw [World.size_alloc, ← HH9.out] at this
      rw [hw0]; exact this
    have bQ : Boxed w0 h9 25 (.slice (some ⟨h + 2, 0, none⟩) N N) := by
      have := (Boxed.new w3 25 (.slice (some ⟨h + 2, 0, none⟩) N N)).alloc (.cells #[.slice (some ⟨h + 2, 0, none⟩) N N] 25)
      rw [← HH9.out] at this
      rw [hw0]; exact this
    have hD0 : WB w h h9 N 2 (waS 2 p N []).1 (waS 2 p N []).2 w0 := ⟨(hB0.block h (by omega)).trans HK0.out, (hB0.block (h + 1) (by omega)).trans HK1.out, HQ3.out.below hB0 (by omega), bQ, HBP.out.trans (hB0.mono (by omega)), by omega⟩
    have HD0 := Lib.hid hD0
    have hQ0 : QN w0 (h + 2) N := ⟨_, tab_len _ _, tab_in fun s _ => (HP.out []).2 s, hD0.2.2.1⟩
    clear hB0 bQ hw0 hD0
    refine wpIn_rangeFunc_ownG rfl (by omega) (gf := 157) (lb := #[.pointer (some ⟨h9 + 1, 0, none⟩)]) rfl trivial (enters_of Try.func157 (by kernel_rfl) rfl)
      (Kp := KpQ (h9 + 1) (h + 2) N) (encs := fun q : Nat × Int => #[.int .i64 ((q.1 % N : Nat) : Int), .int .u16 (q.2 % 65536)]) (S := fun ys => ys.map (·.1) = descK N N) (Sp := fun pre => True) (N := N) (w0 := w0)
      (fun l J Jx W hW _ _ hY h0 => back1q_in _ l (h9 + 1) (h + 2) N (by omega) (by omega) J Jx hY _ ((hW.cell (p := ⟨h9 + 1, 0, none⟩) (by show h9 + 1 < w0.heap.size; omega)).trans bS.cell) (by obtain ⟨zs, e1, e2, e3⟩ := hQ0; exact ⟨zs, e1, e2, e3.below hW (by omega)⟩) h0)
      (fun h k => h.trans k) (fun W l o o' hl _ _ _ => KpQ.put W l o' (by omega) (by omega)) (Below.refl _ _) (fun _ => rfl)
      (fun pre W => WB w h h9 N 2 (waS 2 p N pre).1 (waS 2 p N pre).2 W)
      (fun _ _ _ => False)
      (WB.ownFrom HHE.out (by omega) (fun pre => (waS 2 p N pre).1) (fun pre => (waS 2 p N pre).2))
      (fun _ _ _ _ _ hs _ _ => hs)
      HD0.out
      ?_ ?assign2 ?body2 ?done2 ?stop2
    case assign2 =>
      intro l q W K hK
      gi_wp2
      exact hK
    case body2 =>
      rintro l pre pr W hD hlt
      obtain ⟨m, hm⟩ : ∃ m, m = pr.1 % N := ⟨_, rfl⟩
      have hmN : m < N := by rw [hm]; exact Nat.mod_lt _ (by omega)
      have hmi : (pr.1 : Int) % (N : Int) = (m : Int) := by rw [hm]; exact (Int.natCast_emod _ _).symm
      have hsn := HS.out pre pr
      unfold stepW at hsn
      rw [← hm] at hsn
      have hu := HP.out pre
      have hu2 := (HP.out (pre ++ [pr])).2
      obtain ⟨x, hx⟩ : ∃ x, x = (waS 2 p N pre).1 := ⟨_, rfl⟩
      obtain ⟨T, hT⟩ : ∃ T, T = (waS 2 p N pre).2 := ⟨_, rfl⟩
      rw [← hx, ← hT] at hD hsn
      rw [← hx] at hu
      obtain ⟨⟨x0, x1⟩, _⟩ := hu
      have r1 := Int.tmod_eq_emod_of_nonneg (a := x) (b := 2) x0
      have r2 := Int.tdiv_eq_ediv_of_nonneg (a := x) (b := 2) x0
      obtain ⟨z, hz⟩ : ∃ z, z = x % 2 := ⟨_, rfl⟩
      obtain ⟨x2, hx2⟩ : ∃ x2, x2 = x / 2 := ⟨_, rfl⟩
      have z1 : 0 ≤ z ∧ z < 65536 := by omega
      obtain ⟨z10, z11⟩ := z1
      have zw : IntKind.u16.wrap z = z := by rw [IntKind.wrap_u16]; omega
      have y1 : 0 ≤ x2 ∧ x2 ≤ 9223372036854775807 := by omega
      obtain ⟨y10, y11⟩ := y1
      rw [← hz] at r1 hsn
      rw [← hx2] at r2 hsn
      rw [hsn] at hu2
      have HU2 := Lib.hid hu2
      have HSN := Lib.hid hsn
      have hDd := hD.drew
      have hko : KeepsOthers W W.drew := KeepsOthers.drew W
      have hn9 : W.drew.heap[h9 + 1]? = W.heap[h9 + 1]? := rfl
      obtain ⟨wd, hwd⟩ : ∃ wd, wd = W.drew := ⟨_, rfl⟩
      rw [← hwd] at hDd hko hn9
      have HWD := Lib.hid hwd
      clear hwd hu2 hsn
      have q1 : wd.cell? ⟨h9, 0, none⟩ = _ := hDd.2.2.2.1.cell
      have q2 : wd.cell? ⟨h + 1, 0, none⟩ = _ := hDd.2.1.cell
      have q3 : wd.cell? ⟨h, 0, none⟩ = _ := hDd.1.cell
      have q6 : wd.frozen? ⟨h + 2, m, none⟩ = false := hDd.2.2.1.free m
      have q7 : wd.cell? ⟨h + 2, m, none⟩ = _ := hDd.2.2.1.tabcell2 m hmN
      have i5 : (m : Int) < (N : Int) := by omega
      have HSET := Lib.hid (hDd.setT hle9 m z)
      have HKO := Lib.hid (hko.trans (KeepsOthers.setCell wd ⟨h + 2, m, none⟩ (.int .u16 z)))
      have HN9 : Hid ((wd.setCell ⟨h + 2, m, none⟩ (.int .u16 z)).heap[h9 + 1]? = W.heap[h9 + 1]?) := Lib.hid ((Below.heap_setCell _ _ _ _ (by show h9 + 1 ≠ h + 2; omega)).trans hn9)
      clear hm hx hT hz hx2 hko hn9 hDd hD
      rw [hmi]
      gi_wp2
      refine region_round ?_ (fun w' => WB w h h9 N 2 x (put T m z) w' ∧ KeepsOthers W w' ∧ w'.heap[h9 + 1]? = W.heap[h9 + 1]?) (fun u => u.cell? ⟨h9, 0, none⟩ = some (.slice (some ⟨h + 2, 0, none⟩) N N) ∧ u.cell? ⟨h + 1, 0, none⟩ = some (.int .i64 x) ∧ u.cell? ⟨h, 0, none⟩ = some (.int .i64 2)) (by kernel_rfl) (by kernel_rfl) ?_ (fun hS => ?_) ?_
      rotate_left 1
      · rw [← HWD.out]; exact ⟨q1, q2, q3⟩
      · rw [← HWD.out] at hS ⊢
        refine takeH (i := 0) (v := ?v02) rfl rfl (by kernel_rfl) (by kernel_rfl) (by kernel_rfl) (fun _ _ _ h => h) rfl ?hy02 hS ?rs02
        case hy02 => (intro wq hq; obtain ⟨s1, s2, s3⟩ := hq; go_simp; try (with_reducible rfl))
        simp only [Act.put, List.setIfInBounds_toArray, List.set_cons_zero, List.set_cons_succ]
        refine takeH (i := 1) (v := ?v12) rfl rfl (by kernel_rfl) (by kernel_rfl) (by kernel_rfl) (fun _ _ _ h => h) rfl ?hy12 hS ?rs12
        case hy12 => (intro wq hq; obtain ⟨s1, s2, s3⟩ := hq; go_simp; try (with_reducible rfl))
        simp only [Act.put, List.setIfInBounds_toArray, List.set_cons_zero, List.set_cons_succ]
        refine takeH (i := 2) (v := ?v22) rfl rfl (by kernel_rfl) (by kernel_rfl) (by kernel_rfl) (fun _ _ _ h => h) rfl ?hy22 hS ?rs22
        case hy22 => (intro wq hq; obtain ⟨s1, s2, s3⟩ := hq; go_simp; try (with_reducible rfl))
        simp only [Act.put, List.setIfInBounds_toArray, List.set_cons_zero, List.set_cons_succ]
        refine takeH (i := 3) (v := ?v32) rfl rfl (by kernel_rfl) (by kernel_rfl) (by kernel_rfl) (fun _ _ _ h => h) rfl ?hy32 hS ?rs32
        case hy32 => (intro wq hq; obtain ⟨s1, s2, s3⟩ := hq; go_simp; try (with_reducible rfl))
        simp only [Act.put, List.setIfInBounds_toArray, List.set_cons_zero, List.set_cons_succ]
        refine takeH (i := 4) (v := ?v42) rfl rfl (by kernel_rfl) (by kernel_rfl) (by kernel_rfl) (fun _ _ _ h => h) rfl ?hy42 hS ?rs42
        case hy42 => (intro wq hq; obtain ⟨s1, s2, s3⟩ := hq; go_simp; try (with_reducible rfl))
        simp only [Act.put, List.setIfInBounds_toArray, List.set_cons_zero, List.set_cons_succ]
        refine takeH (i := 5) (v := ?v52) rfl rfl (by kernel_rfl) (by kernel_rfl) (by kernel_rfl) (fun _ _ _ h => h) rfl ?hy52 hS ?rs52
        case hy52 => (intro wq hq; obtain ⟨s1, s2, s3⟩ := hq; go_simp; try (with_reducible rfl))
        simp only [Act.put, List.setIfInBounds_toArray, List.set_cons_zero, List.set_cons_succ]
        refine takeH (i := 6) (v := ?v62) rfl rfl (by kernel_rfl) (by kernel_rfl) (by kernel_rfl) (fun _ _ _ h => h) rfl ?hy62 hS ?rs62
        case hy62 => (intro wq hq; obtain ⟨s1, s2, s3⟩ := hq; go_simp; try (with_reducible rfl))
        simp only [Act.put, List.setIfInBounds_toArray, List.set_cons_zero, List.set_cons_succ]
        refine wpAnyH_ready (rs := [7]) (by kernel_rfl) (by simp) ?_
        refine AllReadyH.cons rfl (fun K hK => ?_) AllReadyH.nil
        go_simp
        refine hK.out _ _ ⟨cell_far (by omega) hS.1, cell_far (by omega) hS.2.1, cell_far (by omega) hS.2.2⟩ (fun hS => ?_)
        clear hK
        refine wpAnyH_done (by kernel_rfl) ?_ _
        refine ⟨?_, HSET.out, HKO.out, HN9.out⟩
        with_unfolding_all rfl
      · clear HSET HKO HN9 q1 q2 q3 q6 q7 HWD
        rintro w5 ⟨hD5, hK5, hN5⟩
        have q2 : w5.cell? ⟨h + 1, 0, none⟩ = _ := hD5.2.1.cell
        have q3 : w5.cell? ⟨h, 0, none⟩ = _ := hD5.1.cell
        have q4 := hD5.2.1.frozen
        have HD6 := Lib.hid (hD5.setX hle9 x2)
        have HK6 := Lib.hid (hK5.trans (KeepsOthers.setCell w5 ⟨h + 1, 0, none⟩ (.int .i64 x2)))
        have HN6 : Hid ((w5.setCell ⟨h + 1, 0, none⟩ (.int .i64 x2)).heap[h9 + 1]? = W.heap[h9 + 1]?) := Lib.hid ((Below.heap_setCell _ _ _ _ (by show h9 + 1 ≠ h + 1; omega)).trans hN5)
        clear hD5 hK5 hN5
        gi_wp2
        refine ⟨HK6.out.from _, ⟨HN6.out, fun _ => ⟨_, tab_len _ _, tab_in fun s _ => HU2.out s, HD6.out.2.2.1⟩⟩, ?_⟩
        show WB w h h9 N 2 (waS 2 p N (pre ++ [pr])).1 (waS 2 p N (pre ++ [pr])).2 _
        rw [HSN.out]
        exact HD6.out
    case done2 =>
      rintro D ys W hDs hys hDB hKD
      obtain ⟨e1, e2⟩ := HEND.out ys hys
      have hrq := hDB.2.2.1
      rw [e2, H9.out] at hrq
      have q1 : W.cell? ⟨h9, 0, none⟩ = _ := hDB.2.2.2.1.cell
      have HDB := Lib.hid hDB
      have HRQ := Lib.hid hrq
      have HKD := Lib.hid hKD
      clear e1 e2 hDB hrq hKD hys
      gi_wp2
      have d := HDB.out
      have kd : W.heap[D]? = some (.deferred (some [])) := HKD.out
      have n1 : D ≠ h + 2 := by omega
      refine ⟨by simp, .inl ⟨_, _, rfl, run_takeDeferred kd, ?_⟩⟩
      refine ⟨_, results_tmp rfl _ _ _, _, rfl, ?_, ?_⟩
      all_goals rw [← HHE.out]
      · have r1 : RW (W.putObj D (.deferred none)) (h + 2) (waL 2 p N) := (World.putObj_heap_other (by omega)).trans HRQ.out
        have r2 := r1.po (B := h) HIN.out (by omega) (by rw [HL.out]; unfold maxLen; omega)
        rw [HL.out] at r2
        exact r2
      · exact d.2.2.2.2.1.trans (belowK_b (w := w0) (by omega) W D _ _ hDs kd rfl rfl)
    case stop2 =>
      rintro D c pre W _ _ h _
      exact h.elim
  · refine (callsIn_wide (n := 12)).1 ?_
    refine callsIn_of_wp_marks Try.func94 rfl trivial ?_ rfl
    simp only [Try.ntmps94, List.size_toArray, List.length_cons, List.length_nil, Nat.reduceAdd, Nat.reduceSub, Array.replicate_succ, Array.replicate_zero, List.push_toArray, List.append_toArray, List.nil_append, List.cons_append]
    clear hb
    gi_wp2_with (gi_at_make; refine wpListIn_make_full _ rfl _ _ 25 rfl (h + 2) 39 i0 (.int .u16 0) 1 Try.underlying25 hi hz0 hz1 _ _ _ _ N rfl rfl rfl rfl (by rw [hz2]; omega) (by unfold maxLen; omega) (by rw [World.size_alloc, World.size_alloc, HHE.out]; exact Nat.le_refl _) ?_)
    intro w3 hown3 hgrow3
    obtain ⟨wp, hwp⟩ : ∃ wp, wp = ((w.alloc (.cells #[.int .i64 4] 72)).alloc (.cells #[.int .i64 p] 2)) := ⟨_, rfl⟩
    rw [← hwp] at hgrow3
    rw [made_tab, ← HHE.out] at hown3
    have hszp : wp.heap.size = h + 2 := by rw [hwp, HHE.out]; simp
    have hBp : Below h w wp := by rw [hwp, HHE.out]; exact ((Below.refl _ w).alloc (Nat.le_refl _) _).alloc (by simp) _
    have b0 : Boxed wp h 72 (.int .i64 4) := by rw [hwp, HHE.out]; exact (Boxed.new w _ _).alloc _
    have b1 : Boxed wp (h + 1) 2 (.int .i64 p) := by
      rw [hwp, HHE.out]
      have := Boxed.new (w.alloc (.cells #[.int .i64 4] 72)) 2 (.int .i64 p)
      rwa [World.size_alloc] at this
    have hq3 : RW w3 (h + 2) (tab N fun _ => 0) := RW.of_own hown3
    have hle3 : h + 3 ≤ w3.heap.size := hq3.lt
    have hB3 : Below (h + 2) wp w3 := (Below.refl (h + 2) wp).grown hgrow3 (by omega) (fun k hk => by cases hk)
    have k0 : Boxed w3 h 72 (.int .i64 4) := (hB3.block h (by omega)).trans b0
    have k1 : Boxed w3 (h + 1) 2 (.int .i64 p) := (hB3.block (h + 1) (by omega)).trans b1
    obtain ⟨h9, hh9⟩ : ∃ h9, h9 = w3.heap.size := ⟨_, rfl⟩
    have HH9 := Lib.hid hh9
    have HBP := Lib.hid (hBp.trans (hB3.mono (by omega)))
    have HK0 := Lib.hid k0
    have HK1 := Lib.hid k1
    have HQ3 := Lib.hid hq3
    have hle9 : h + 2 < h9 := by omega
    rw [← HHE.out]
    clear hown3 hgrow3 hwp hszp hBp b0 b1 hq3 hle3 hB3 k0 k1 hh9
    gi_wp2
    refine ⟨trivial, ?_⟩
    refine (backward_in _ _ _ _ _).mono ?_
    rintro e w' ⟨rfl, rfl⟩
    gi_wp2
    obtain ⟨w0, hw0⟩ : ∃ w0, w0 = ((w3.alloc (.cells #[.slice (some ⟨h + 2, 0, none⟩) N N] 25)).alloc (.cells #[.slice (some ⟨h + 2, 0, none⟩) N N] 25)) := ⟨_, rfl⟩
    rw [← HH9.out, ← hw0]
    have hB0 : Below h9 w3 w0 := by rw [hw0]; exact ((Below.refl h9 w3).alloc (Nat.le_of_eq HH9.out) _).alloc (by rw [World.size_alloc, ← HH9.out]; omega) _
    have hsz0 : w0.heap.size = h9 + 2 := by rw [hw0, HH9.out]; simp
    have bS : Boxed w0 (h9 + 1) 25 (.slice (some ⟨h + 2, 0, none⟩) N N) := by
      have := Boxed.new (w3.alloc (.cells #[.slice (some ⟨h + 2, 0, none⟩) N N] 25)) 25 (.slice (some ⟨h + 2, 0, none⟩) N N)
      rw [World.size_alloc, ← HH9.out] at this
      rw [hw0]; exact this
    have bQ : Boxed w0 h9 25 (.slice (some ⟨h + 2, 0, none⟩) N N) := by
      have := (Boxed.new w3 25 (.slice (some ⟨h + 2, 0, none⟩) N N)).alloc (.cells #[.slice (some ⟨h + 2, 0, none⟩) N N] 25)
      rw [← HH9.out] at this
      rw [hw0]; exact this
    have hD0 : WB w h h9 N 4 (waS 4 p N []).1 (waS 4 p N []).2 w0 := ⟨(hB0.block h (by omega)).trans HK0.out, (hB0.block (h + 1) (by omega)).trans HK1.out, HQ3.out.below hB0 (by omega), bQ, HBP.out.trans (hB0.mono (by omega)), by omega⟩
    have HD0 := Lib.hid hD0
    have hQ0 : QN w0 (h + 2) N := ⟨_, tab_len _ _, tab_in fun s _ => (HP.out []).2 s, hD0.2.2.1⟩
    clear hB0 bQ hw0 hD0
    refine wpIn_rangeFunc_ownG rfl (by omega) (gf := 157) (lb := #[.pointer (some ⟨h9 + 1, 0, none⟩)]) rfl trivial (enters_of Try.func157 (by kernel_rfl) rfl)
      (Kp := KpQ (h9 + 1) (h + 2) N) (encs := fun q : Nat × Int => #[.int .i64 ((q.1 % N : Nat) : Int), .int .u16 (q.2 % 65536)]) (S := fun ys => ys.map (·.1) = descK N N) (Sp := fun pre => True) (N := N) (w0 := w0)
      (fun l J Jx W hW _ _ hY h0 => back1q_in _ l (h9 + 1) (h + 2) N (by omega) (by omega) J Jx hY _ ((hW.cell (p := ⟨h9 + 1, 0, none⟩) (by show h9 + 1 < w0.heap.size; omega)).trans bS.cell) (by obtain ⟨zs, e1, e2, e3⟩ := hQ0; exact ⟨zs, e1, e2, e3.below hW (by omega)⟩) h0)
      (fun h k => h.trans k) (fun W l o o' hl _ _ _ => KpQ.put W l o' (by omega) (by omega)) (Below.refl _ _) (fun _ => rfl)
      (fun pre W => WB w h h9 N 4 (waS 4 p N pre).1 (waS 4 p N pre).2 W)
      (fun _ _ _ => False)
      (WB.ownFrom HHE.out (by omega) (fun pre => (waS 4 p N pre).1) (fun pre => (waS 4 p N pre).2))
      (fun _ _ _ _ _ hs _ _ => hs)
      HD0.out
      ?_ ?assign4 ?body4 ?done4 ?stop4
    case assign4 =>
      intro l q W K hK
      gi_wp2
      exact hK
    case body4 =>
      rintro l pre pr W hD hlt
      obtain ⟨m, hm⟩ : ∃ m, m = pr.1 % N := ⟨_, rfl⟩
      have hmN : m < N := by rw [hm]; exact Nat.mod_lt _ (by omega)
      have hmi : (pr.1 : Int) % (N : Int) = (m : Int) := by rw [hm]; exact (Int.natCast_emod _ _).symm
      have hsn := HS.out pre pr
      unfold stepW at hsn
      rw [← hm] at hsn
      have hu := HP.out pre
      have hu2 := (HP.out (pre ++ [pr])).2
      obtain ⟨x, hx⟩ : ∃ x, x = (waS 4 p N pre).1 := ⟨_, rfl⟩
      obtain ⟨T, hT⟩ : ∃ T, T = (waS 4 p N pre).2 := ⟨_, rfl⟩
      rw [← hx, ← hT] at hD hsn
      rw [← hx] at hu
      obtain ⟨⟨x0, x1⟩, _⟩ := hu
      have r1 := Int.tmod_eq_emod_of_nonneg (a := x) (b := 4) x0
      have r2 := Int.tdiv_eq_ediv_of_nonneg (a := x) (b := 4) x0
      obtain ⟨z, hz⟩ : ∃ z, z = x % 4 := ⟨_, rfl⟩
      obtain ⟨x2, hx2⟩ : ∃ x2, x2 = x / 4 := ⟨_, rfl⟩
      have z1 : 0 ≤ z ∧ z < 65536 := by omega
      obtain ⟨z10, z11⟩ := z1
      have zw : IntKind.u16.wrap z = z := by rw [IntKind.wrap_u16]; omega
      have y1 : 0 ≤ x2 ∧ x2 ≤ 9223372036854775807 := by omega
      obtain ⟨y10, y11⟩ := y1
      rw [← hz] at r1 hsn
      rw [← hx2] at r2 hsn
      rw [hsn] at hu2
      have HU2 := Lib.hid hu2
      have HSN := Lib.hid hsn
      have hDd := hD.drew
      have hko : KeepsOthers W W.drew := KeepsOthers.drew W
      have hn9 : W.drew.heap[h9 + 1]? = W.heap[h9 + 1]? := rfl
      obtain ⟨wd, hwd⟩ : ∃ wd, wd = W.drew := ⟨_, rfl⟩
      rw [← hwd] at hDd hko hn9
      have HWD := Lib.hid hwd
      clear hwd hu2 hsn
      have q1 : wd.cell? ⟨h9, 0, none⟩ = _ := hDd.2.2.2.1.cell
      have q2 : wd.cell? ⟨h + 1, 0, none⟩ = _ := hDd.2.1.cell
      have q3 : wd.cell? ⟨h, 0, none⟩ = _ := hDd.1.cell
      have q6 : wd.frozen? ⟨h + 2, m, none⟩ = false := hDd.2.2.1.free m
      have q7 : wd.cell? ⟨h + 2, m, none⟩ = _ := hDd.2.2.1.tabcell2 m hmN
      have i5 : (m : Int) < (N : Int) := by omega
      have HSET := Lib.hid (hDd.setT hle9 m z)
      have HKO := Lib.hid (hko.trans (KeepsOthers.setCell wd ⟨h + 2, m, none⟩ (.int .u16 z)))
      have HN9 : Hid ((wd.setCell ⟨h + 2, m, none⟩ (.int .u16 z)).heap[h9 + 1]? = W.heap[h9 + 1]?) := Lib.hid ((Below.heap_setCell _ _ _ _ (by show h9 + 1 ≠ h + 2; omega)).trans hn9)
      clear hm hx hT hz hx2 hko hn9 hDd hD
      rw [hmi]
      gi_wp2
      refine region_round ?_ (fun w' => WB w h h9 N 4 x (put T m z) w' ∧ KeepsOthers W w' ∧ w'.heap[h9 + 1]? = W.heap[h9 + 1]?) (fun u => u.cell? ⟨h9, 0, none⟩ = some (.slice (some ⟨h + 2, 0, none⟩) N N) ∧ u.cell? ⟨h + 1, 0, none⟩ = some (.int .i64 x) ∧ u.cell? ⟨h, 0, none⟩ = some (.int .i64 4)) (by kernel_rfl) (by kernel_rfl) ?_ (fun hS => ?_) ?_
      rotate_left 1
      · rw [← HWD.out]; exact ⟨q1, q2, q3⟩
      · rw [← HWD.out] at hS ⊢
        refine takeH (i := 0) (v := ?v04) rfl rfl (by kernel_rfl) (by kernel_rfl) (by kernel_rfl) (fun _ _ _ h => h) rfl ?hy04 hS ?rs04
        case hy04 => (intro wq hq; obtain ⟨s1, s2, s3⟩ := hq; go_simp; try (with_reducible rfl))
        simp only [Act.put, List.setIfInBounds_toArray, List.set_cons_zero, List.set_cons_succ]
        refine takeH (i := 1) (v := ?v14) rfl rfl (by kernel_rfl) (by kernel_rfl) (by kernel_rfl) (fun _ _ _ h => h) rfl ?hy14 hS ?rs14
        case hy14 => (intro wq hq; obtain ⟨s1, s2, s3⟩ := hq; go_simp; try (with_reducible rfl))
        simp only [Act.put, List.setIfInBounds_toArray, List.set_cons_zero, List.set_cons_succ]
        refine takeH (i := 2) (v := ?v24) rfl rfl (by kernel_rfl) (by kernel_rfl) (by kernel_rfl) (fun _ _ _ h => h) rfl ?hy24 hS ?rs24
        case hy24 => (intro wq hq; obtain ⟨s1, s2, s3⟩ := hq; go_simp; try (with_reducible rfl))
        simp only [Act.put, List.setIfInBounds_toArray, List.set_cons_zero, List.set_cons_succ]
        refine takeH (i := 3) (v := ?v34) rfl rfl (by kernel_rfl) (by kernel_rfl) (by kernel_rfl) (fun _ _ _ h => h) rfl ?hy34 hS ?rs34
        case hy34 => (intro wq hq; obtain ⟨s1, s2, s3⟩ := hq; go_simp; try (with_reducible rfl))
        simp only [Act.put, List.setIfInBounds_toArray, List.set_cons_zero, List.set_cons_succ]
        refine takeH (i := 4) (v := ?v44) rfl rfl (by kernel_rfl) (by kernel_rfl) (by kernel_rfl) (fun _ _ _ h => h) rfl ?hy44 hS ?rs44
        case hy44 => (intro wq hq; obtain ⟨s1, s2, s3⟩ := hq; go_simp; try (with_reducible rfl))
        simp only [Act.put, List.setIfInBounds_toArray, List.set_cons_zero, List.set_cons_succ]
        refine takeH (i := 5) (v := ?v54) rfl rfl (by kernel_rfl) (by kernel_rfl) (by kernel_rfl) (fun _ _ _ h => h) rfl ?hy54 hS ?rs54
        case hy54 => (intro wq hq; obtain ⟨s1, s2, s3⟩ := hq; go_simp; try (with_reducible rfl))
        simp only [Act.put, List.setIfInBounds_toArray, List.set_cons_zero, List.set_cons_succ]
        refine takeH (i := 6) (v := ?v64) rfl rfl (by kernel_rfl) (by kernel_rfl) (by kernel_rfl) (fun _ _ _ h => h) rfl ?hy64 hS ?rs64
        case hy64 => (intro wq hq; obtain ⟨s1, s2, s3⟩ := hq; go_simp; try (with_reducible rfl))
        simp only [Act.put, List.setIfInBounds_toArray, List.set_cons_zero, List.set_cons_succ]
        refine wpAnyH_ready (rs := [7]) (by kernel_rfl) (by simp) ?_
        refine AllReadyH.cons rfl (fun K hK => ?_) AllReadyH.nil
        go_simp
        refine hK.out _ _ ⟨cell_far (by omega) hS.1, cell_far (by omega) hS.2.1, cell_far (by omega) hS.2.2⟩ (fun hS => ?_)
        clear hK
        refine wpAnyH_done (by kernel_rfl) ?_ _
        refine ⟨?_, HSET.out, HKO.out, HN9.out⟩
        with_unfolding_all rfl
      · clear HSET HKO HN9 q1 q2 q3 q6 q7 HWD
        rintro w5 ⟨hD5, hK5, hN5⟩
        have q2 : w5.cell? ⟨h + 1, 0, none⟩ = _ := hD5.2.1.cell
        have q3 : w5.cell? ⟨h, 0, none⟩ = _ := hD5.1.cell
        have q4 := hD5.2.1.frozen
        have HD6 := Lib.hid (hD5.setX hle9 x2)
        have HK6 := Lib.hid (hK5.trans (KeepsOthers.setCell w5 ⟨h + 1, 0, none⟩ (.int .i64 x2)))
        have HN6 : Hid ((w5.setCell ⟨h + 1, 0, none⟩ (.int .i64 x2)).heap[h9 + 1]? = W.heap[h9 + 1]?) := Lib.hid ((Below.heap_setCell _ _ _ _ (by show h9 + 1 ≠ h + 1; omega)).trans hN5)
        clear hD5 hK5 hN5
        gi_wp2
        refine ⟨HK6.out.from _, ⟨HN6.out, fun _ => ⟨_, tab_len _ _, tab_in fun s _ => HU2.out s, HD6.out.2.2.1⟩⟩, ?_⟩
        show WB w h h9 N 4 (waS 4 p N (pre ++ [pr])).1 (waS 4 p N (pre ++ [pr])).2 _
        rw [HSN.out]
        exact HD6.out
    case done4 =>
      rintro D ys W hDs hys hDB hKD
      obtain ⟨e1, e2⟩ := HEND.out ys hys
      have hrq := hDB.2.2.1
      rw [e2, H9.out] at hrq
      have q1 : W.cell? ⟨h9, 0, none⟩ = _ := hDB.2.2.2.1.cell
      have HDB := Lib.hid hDB
      have HRQ := Lib.hid hrq
      have HKD := Lib.hid hKD
      clear e1 e2 hDB hrq hKD hys
      gi_wp2
      have d := HDB.out
      have kd : W.heap[D]? = some (.deferred (some [])) := HKD.out
      have n1 : D ≠ h + 2 := by omega
      refine ⟨by simp, .inl ⟨_, _, rfl, run_takeDeferred kd, ?_⟩⟩
      refine ⟨_, results_tmp rfl _ _ _, _, rfl, ?_, ?_⟩
      all_goals rw [← HHE.out]
      · have r1 : RW (W.putObj D (.deferred none)) (h + 2) (waL 4 p N) := (World.putObj_heap_other (by omega)).trans HRQ.out
        have r2 := r1.po (B := h) HIN.out (by omega) (by rw [HL.out]; unfold maxLen; omega)
        rw [HL.out] at r2
        exact r2
      · exact d.2.2.2.2.1.trans (belowK_b (w := w0) (by omega) W D _ _ hDs kd rfl rfl)
    case stop4 =>
      rintro D c pre W _ _ h _
      exact h.elim
  · refine (callsIn_wide (n := 12)).1 ?_
    refine callsIn_of_wp_marks Try.func94 rfl trivial ?_ rfl
    simp only [Try.ntmps94, List.size_toArray, List.length_cons, List.length_nil, Nat.reduceAdd, Nat.reduceSub, Array.replicate_succ, Array.replicate_zero, List.push_toArray, List.append_toArray, List.nil_append, List.cons_append]
    clear hb
    gi_wp2_with (gi_at_make; refine wpListIn_make_full _ rfl _ _ 25 rfl (h + 2) 39 i0 (.int .u16 0) 1 Try.underlying25 hi hz0 hz1 _ _ _ _ N rfl rfl rfl rfl (by rw [hz2]; omega) (by unfold maxLen; omega) (by rw [World.size_alloc, World.size_alloc, HHE.out]; exact Nat.le_refl _) ?_)
    intro w3 hown3 hgrow3
    obtain ⟨wp, hwp⟩ : ∃ wp, wp = ((w.alloc (.cells #[.int .i64 16] 72)).alloc (.cells #[.int .i64 p] 2)) := ⟨_, rfl⟩
    rw [← hwp] at hgrow3
    rw [made_tab, ← HHE.out] at hown3
    have hszp : wp.heap.size = h + 2 := by rw [hwp, HHE.out]; simp
    have hBp : Below h w wp := by rw [hwp, HHE.out]; exact ((Below.refl _ w).alloc (Nat.le_refl _) _).alloc (by simp) _
    have b0 : Boxed wp h 72 (.int .i64 16) := by rw [hwp, HHE.out]; exact (Boxed.new w _ _).alloc _
    have b1 : Boxed wp (h + 1) 2 (.int .i64 p) := by
      rw [hwp, HHE.out]
      have := Boxed.new (w.alloc (.cells #[.int .i64 16] 72)) 2 (.int .i64 p)
      rwa [World.size_alloc] at this
    have hq3 : RW w3 (h + 2) (tab N fun _ => 0) := RW.of_own hown3
    have hle3 : h + 3 ≤ w3.heap.size := hq3.lt
    have hB3 : Below (h + 2) wp w3 := (Below.refl (h + 2) wp).grown hgrow3 (by omega) (fun k hk => by cases hk)
    have k0 : Boxed w3 h 72 (.int .i64 16) := (hB3.block h (by omega)).trans b0
    have k1 : Boxed w3 (h + 1) 2 (.int .i64 p) := (hB3.block (h + 1) (by omega)).trans b1
    obtain ⟨h9, hh9⟩ : ∃ h9, h9 = w3.heap.size := ⟨_, rfl⟩
    have HH9 := Lib.hid hh9
    have HBP := Lib.hid (hBp.trans (hB3.mono (by omega)))
    have HK0 := Lib.hid k0
    have HK1 := Lib.hid k1
    have HQ3 := Lib.hid hq3
    have hle9 : h + 2 < h9 := by omega
    rw [← HHE.out]
    clear hown3 hgrow3 hwp hszp hBp b0 b1 hq3 hle3 hB3 k0 k1 hh9
    gi_wp2
    refine ⟨trivial, ?_⟩
    refine (backward_in _ _ _ _ _).mono ?_
    rintro e w' ⟨rfl, rfl⟩
    gi_wp2
    obtain ⟨w0, hw0⟩ : ∃ w0, w0 = ((w3.alloc (.cells #[.slice (some ⟨h + 2, 0, none⟩) N N] 25)).alloc (.cells #[.slice (some ⟨h + 2, 0, none⟩) N N] 25)) := ⟨_, rfl⟩
    rw [← HH9.out, ← hw0]
    have hB0 : Below h9 w3 w0 := by rw [hw0]; exact ((Below.refl h9 w3).alloc (Nat.le_of_eq HH9.out) _).alloc (by rw [World.size_alloc, ← HH9.out]; omega) _
    have hsz0 : w0.heap.size = h9 + 2 := by rw [hw0, HH9.out]; simp
    have bS : Boxed w0 (h9 + 1) 25 (.slice (some ⟨h + 2, 0, none⟩) N N) := by
      have := Boxed.new (w3.alloc (.cells #[.slice (some ⟨h + 2, 0, none⟩) N N] 25)) 25 (.slice (some ⟨h + 2, 0, none⟩) N N)
      rw [World.size_alloc, ← HH9.out] at this
      rw [hw0]; exact this
    have bQ : Boxed w0 h9 25 (.slice (some ⟨h + 2, 0, none⟩) N N) := by
      have := (Boxed.new w3 25 (.slice (some ⟨h + 2, 0, none⟩) N N)).alloc (.cells #[.slice (some ⟨h + 2, 0, none⟩) N N] 25)
      rw [← HH9.out] at this
      rw [hw0]; exact this
    have hD0 : WB w h h9 N 16 (waS 16 p N []).1 (waS 16 p N []).2 w0 := ⟨(hB0.block h (by omega)).trans HK0.out, (hB0.block (h + 1) (by omega)).trans HK1.out, HQ3.out.below hB0 (by omega), bQ, HBP.out.trans (hB0.mono (by omega)), by omega⟩
    have HD0 := Lib.hid hD0
    have hQ0 : QN w0 (h + 2) N := ⟨_, tab_len _ _, tab_in fun s _ => (HP.out []).2 s, hD0.2.2.1⟩
    clear hB0 bQ hw0 hD0
    refine wpIn_rangeFunc_ownG rfl (by omega) (gf := 157) (lb := #[.pointer (some ⟨h9 + 1, 0, none⟩)]) rfl trivial (enters_of Try.func157 (by kernel_rfl) rfl)
      (Kp := KpQ (h9 + 1) (h + 2) N) (encs := fun q : Nat × Int => #[.int .i64 ((q.1 % N : Nat) : Int), .int .u16 (q.2 % 65536)]) (S := fun ys => ys.map (·.1) = descK N N) (Sp := fun pre => True) (N := N) (w0 := w0)
      (fun l J Jx W hW _ _ hY h0 => back1q_in _ l (h9 + 1) (h + 2) N (by omega) (by omega) J Jx hY _ ((hW.cell (p := ⟨h9 + 1, 0, none⟩) (by show h9 + 1 < w0.heap.size; omega)).trans bS.cell) (by obtain ⟨zs, e1, e2, e3⟩ := hQ0; exact ⟨zs, e1, e2, e3.below hW (by omega)⟩) h0)
      (fun h k => h.trans k) (fun W l o o' hl _ _ _ => KpQ.put W l o' (by omega) (by omega)) (Below.refl _ _) (fun _ => rfl)
      (fun pre W => WB w h h9 N 16 (waS 16 p N pre).1 (waS 16 p N pre).2 W)
      (fun _ _ _ => False)
      (WB.ownFrom HHE.out (by omega) (fun pre => (waS 16 p N pre).1) (fun pre => (waS 16 p N pre).2))
      (fun _ _ _ _ _ hs _ _ => hs)
      HD0.out
      ?_ ?assign16 ?body16 ?done16 ?stop16
    case assign16 =>
      intro l q W K hK
      gi_wp2
      exact hK
    case body16 =>
      rintro l pre pr W hD hlt
      obtain ⟨m, hm⟩ : ∃ m, m = pr.1 % N := ⟨_, rfl⟩
      have hmN : m < N := by rw [hm]; exact Nat.mod_lt _ (by omega)
      have hmi : (pr.1 : Int) % (N : Int) = (m : Int) := by rw [hm]; exact (Int.natCast_emod _ _).symm
      have hsn := HS.out pre pr
      unfold stepW at hsn
      rw [← hm] at hsn
      have hu := HP.out pre
      have hu2 := (HP.out (pre ++ [pr])).2
      obtain ⟨x, hx⟩ : ∃ x, x = (waS 16 p N pre).1 := ⟨_, rfl⟩
      obtain ⟨T, hT⟩ : ∃ T, T = (waS 16 p N pre).2 := ⟨_, rfl⟩
      rw [← hx, ← hT] at hD hsn
      rw [← hx] at hu
      obtain ⟨⟨x0, x1⟩, _⟩ := hu
      have r1 := Int.tmod_eq_emod_of_nonneg (a := x) (b := 16) x0
      have r2 := Int.tdiv_eq_ediv_of_nonneg (a := x) (b := 16) x0
      obtain ⟨z, hz⟩ : ∃ z, z = x % 16 := ⟨_, rfl⟩
      obtain ⟨x2, hx2⟩ : ∃ x2, x2 = x / 16 := ⟨_, rfl⟩
      have z1 : 0 ≤ z ∧ z < 65536 := by omega
      obtain ⟨z10, z11⟩ := z1
      have zw : IntKind.u16.wrap z = z := by rw [IntKind.wrap_u16]; omega
      have y1 : 0 ≤ x2 ∧ x2 ≤ 9223372036854775807 := by omega
      obtain ⟨y10, y11⟩ := y1
      rw [← hz] at r1 hsn
      rw [← hx2] at r2 hsn
      rw [hsn] at hu2
      have HU2 := Lib.hid hu2
      have HSN := Lib.hid hsn
      have hDd := hD.drew
      have hko : KeepsOthers W W.drew := KeepsOthers.drew W
      have hn9 : W.drew.heap[h9 + 1]? = W.heap[h9 + 1]? := rfl
      obtain ⟨wd, hwd⟩ : ∃ wd, wd = W.drew := ⟨_, rfl⟩
      rw [← hwd] at hDd hko hn9
      have HWD := Lib.hid hwd
      clear hwd hu2 hsn
      have q1 : wd.cell? ⟨h9, 0, none⟩ = _ := hDd.2.2.2.1.cell
      have q2 : wd.cell? ⟨h + 1, 0, none⟩ = _ := hDd.2.1.cell
      have q3 : wd.cell? ⟨h, 0, none⟩ = _ := hDd.1.cell
      have q6 : wd.frozen? ⟨h + 2, m, none⟩ = false := hDd.2.2.1.free m
      have q7 : wd.cell? ⟨h + 2, m, none⟩ = _ := hDd.2.2.1.tabcell2 m hmN
      have i5 : (m : Int) < (N : Int) := by omega
      have HSET := Lib.hid (hDd.setT hle9 m z)
      have HKO := Lib.hid (hko.trans (KeepsOthers.setCell wd ⟨h + 2, m, none⟩ (.int .u16 z)))
      have HN9 : Hid ((wd.setCell ⟨h + 2, m, none⟩ (.int .u16 z)).heap[h9 + 1]? = W.heap[h9 + 1]?) := Lib.hid ((Below.heap_setCell _ _ _ _ (by show h9 + 1 ≠ h + 2; omega)).trans hn9)
      clear hm hx hT hz hx2 hko hn9 hDd hD
      rw [hmi]
      gi_wp2
      refine region_round ?_ (fun w' => WB w h h9 N 16 x (put T m z) w' ∧ KeepsOthers W w' ∧ w'.heap[h9 + 1]? = W.heap[h9 + 1]?) (fun u => u.cell? ⟨h9, 0, none⟩ = some (.slice (some ⟨h + 2, 0, none⟩) N N) ∧ u.cell? ⟨h + 1, 0, none⟩ = some (.int .i64 x) ∧ u.cell? ⟨h, 0, none⟩ = some (.int .i64 16)) (by kernel_rfl) (by kernel_rfl) ?_ (fun hS => ?_) ?_
      rotate_left 1
      · rw [← HWD.out]; exact ⟨q1, q2, q3⟩
      · rw [← HWD.out] at hS ⊢
        refine takeH (i := 0) (v := ?v016) rfl rfl (by kernel_rfl) (by kernel_rfl) (by kernel_rfl) (fun _ _ _ h => h) rfl ?hy016 hS ?rs016
        case hy016 => (intro wq hq; obtain ⟨s1, s2, s3⟩ := hq; go_simp; try (with_reducible rfl))
        simp only [Act.put, List.setIfInBounds_toArray, List.set_cons_zero, List.set_cons_succ]
        refine takeH (i := 1) (v := ?v116) rfl rfl (by kernel_rfl) (by kernel_rfl) (by kernel_rfl) (fun _ _ _ h => h) rfl ?hy116 hS ?rs116
        case hy116 => (intro wq hq; obtain ⟨s1, s2, s3⟩ := hq; go_simp; try (with_reducible rfl))
        simp only [Act.put, List.setIfInBounds_toArray, List.set_cons_zero, List.set_cons_succ]
        refine takeH (i := 2) (v := ?v216) rfl rfl (by kernel_rfl) (by kernel_rfl) (by kernel_rfl) (fun _ _ _ h => h) rfl ?hy216 hS ?rs216
        case hy216 => (intro wq hq; obtain ⟨s1, s2, s3⟩ := hq; go_simp; try (with_reducible rfl))
        simp only [Act.put, List.setIfInBounds_toArray, List.set_cons_zero, List.set_cons_succ]
        refine takeH (i := 3) (v := ?v316) rfl rfl (by kernel_rfl) (by kernel_rfl) (by kernel_rfl) (fun _ _ _ h => h) rfl ?hy316 hS ?rs316
        case hy316 => (intro wq hq; obtain ⟨s1, s2, s3⟩ := hq; go_simp; try (with_reducible rfl))
        simp only [Act.put, List.setIfInBounds_toArray, List.set_cons_zero, List.set_cons_succ]
        refine takeH (i := 4) (v := ?v416) rfl rfl (by kernel_rfl) (by kernel_rfl) (by kernel_rfl) (fun _ _ _ h => h) rfl ?hy416 hS ?rs416
        case hy416 => (intro wq hq; obtain ⟨s1, s2, s3⟩ := hq; go_simp; try (with_reducible rfl))
        simp only [Act.put, List.setIfInBounds_toArray, List.set_cons_zero, List.set_cons_succ]
        refine takeH (i := 5) (v := ?v516) rfl rfl (by kernel_rfl) (by kernel_rfl) (by kernel_rfl) (fun _ _ _ h => h) rfl ?hy516 hS ?rs516
        case hy516 => (intro wq hq; obtain ⟨s1, s2, s3⟩ := hq; go_simp; try (with_reducible rfl))
        simp only [Act.put, List.setIfInBounds_toArray, List.set_cons_zero, List.set_cons_succ]
        refine takeH (i := 6) (v := ?v616) rfl rfl (by kernel_rfl) (by kernel_rfl) (by kernel_rfl) (fun _ _ _ h => h) rfl ?hy616 hS ?rs616
        case hy616 => (intro wq hq; obtain ⟨s1, s2, s3⟩ := hq; go_simp; try (with_reducible rfl))
        simp only [Act.put, List.setIfInBounds_toArray, List.set_cons_zero, List.set_cons_succ]
        refine wpAnyH_ready (rs := [7]) (by kernel_rfl) (by simp) ?_
        refine AllReadyH.cons rfl (fun K hK => ?_) AllReadyH.nil
        go_simp
        refine hK.out _ _ ⟨cell_far (by omega) hS.1, cell_far (by omega) hS.2.1, cell_far (by omega) hS.2.2⟩ (fun hS => ?_)
        clear hK
        refine wpAnyH_done (by kernel_rfl) ?_ _
        refine ⟨?_, HSET.out, HKO.out, HN9.out⟩
        with_unfolding_all rfl
      · clear HSET HKO HN9 q1 q2 q3 q6 q7 HWD
        rintro w5 ⟨hD5, hK5, hN5⟩
        have q2 : w5.cell? ⟨h + 1, 0, none⟩ = _ := hD5.2.1.cell
        have q3 : w5.cell? ⟨h, 0, none⟩ = _ := hD5.1.cell
        have q4 := hD5.2.1.frozen
        have HD6 := Lib.hid (hD5.setX hle9 x2)
        have HK6 := Lib.hid (hK5.trans (KeepsOthers.setCell w5 ⟨h + 1, 0, none⟩ (.int .i64 x2)))
        have HN6 : Hid ((w5.setCell ⟨h + 1, 0, none⟩ (.int .i64 x2)).heap[h9 + 1]? = W.heap[h9 + 1]?) := Lib.hid ((Below.heap_setCell _ _ _ _ (by show h9 + 1 ≠ h + 1; omega)).trans hN5)
        clear hD5 hK5 hN5
        gi_wp2
        refine ⟨HK6.out.from _, ⟨HN6.out, fun _ => ⟨_, tab_len _ _, tab_in fun s _ => HU2.out s, HD6.out.2.2.1⟩⟩, ?_⟩
        show WB w h h9 N 16 (waS 16 p N (pre ++ [pr])).1 (waS 16 p N (pre ++ [pr])).2 _
        rw [HSN.out]
        exact HD6.out
    case done16 =>
      rintro D ys W hDs hys hDB hKD
      obtain ⟨e1, e2⟩ := HEND.out ys hys
      have hrq := hDB.2.2.1
      rw [e2, H9.out] at hrq
      have q1 : W.cell? ⟨h9, 0, none⟩ = _ := hDB.2.2.2.1.cell
      have HDB := Lib.hid hDB
      have HRQ := Lib.hid hrq
      have HKD := Lib.hid hKD
      clear e1 e2 hDB hrq hKD hys
      gi_wp2
      have d := HDB.out
      have kd : W.heap[D]? = some (.deferred (some [])) := HKD.out
      have n1 : D ≠ h + 2 := by omega
      refine ⟨by simp, .inl ⟨_, _, rfl, run_takeDeferred kd, ?_⟩⟩
      refine ⟨_, results_tmp rfl _ _ _, _, rfl, ?_, ?_⟩
      all_goals rw [← HHE.out]
      · have r1 : RW (W.putObj D (.deferred none)) (h + 2) (waL 16 p N) := (World.putObj_heap_other (by omega)).trans HRQ.out
        have r2 := r1.po (B := h) HIN.out (by omega) (by rw [HL.out]; unfold maxLen; omega)
        rw [HL.out] at r2
        exact r2
      · exact d.2.2.2.2.1.trans (belowK_b (w := w0) (by omega) W D _ _ hDs kd rfl rfl)
    case stop16 =>
      rintro D c pre W _ _ h _
      exact h.elim
  · refine (callsIn_wide (n := 12)).1 ?_
    refine callsIn_of_wp_marks Try.func94 rfl trivial ?_ rfl
    simp only [Try.ntmps94, List.size_toArray, List.length_cons, List.length_nil, Nat.reduceAdd, Nat.reduceSub, Array.replicate_succ, Array.replicate_zero, List.push_toArray, List.append_toArray, List.nil_append, List.cons_append]
    clear hb
    gi_wp2_with (gi_at_make; refine wpListIn_make_full _ rfl _ _ 25 rfl (h + 2) 39 i0 (.int .u16 0) 1 Try.underlying25 hi hz0 hz1 _ _ _ _ N rfl rfl rfl rfl (by rw [hz2]; omega) (by unfold maxLen; omega) (by rw [World.size_alloc, World.size_alloc, HHE.out]; exact Nat.le_refl _) ?_)
    intro w3 hown3 hgrow3
    obtain ⟨wp, hwp⟩ : ∃ wp, wp = ((w.alloc (.cells #[.int .i64 256] 72)).alloc (.cells #[.int .i64 p] 2)) := ⟨_, rfl⟩
    rw [← hwp] at hgrow3
    rw [made_tab, ← HHE.out] at hown3
    have hszp : wp.heap.size = h + 2 := by rw [hwp, HHE.out]; simp
    have hBp : Below h w wp := by rw [hwp, HHE.out]; exact ((Below.refl _ w).alloc (Nat.le_refl _) _).alloc (by simp) _
    have b0 : Boxed wp h 72 (.int .i64 256) := by rw [hwp, HHE.out]; exact (Boxed.new w _ _).alloc _
    have b1 : Boxed wp (h + 1) 2 (.int .i64 p) := by
      rw [hwp, HHE.out]
      have := Boxed.new (w.alloc (.cells #[.int .i64 256] 72)) 2 (.int .i64 p)
      rwa [World.size_alloc] at this
    have hq3 : RW w3 (h + 2) (tab N fun _ => 0) := RW.of_own hown3
    have hle3 : h + 3 ≤ w3.heap.size := hq3.lt
    have hB3 : Below (h + 2) wp w3 := (Below.refl (h + 2) wp).grown hgrow3 (by omega) (fun k hk => by cases hk)
    have k0 : Boxed w3 h 72 (.int .i64 256) := (hB3.block h (by omega)).trans b0
    have k1 : Boxed w3 (h + 1) 2 (.int .i64 p) := (hB3.block (h + 1) (by omega)).trans b1
    obtain ⟨h9, hh9⟩ : ∃ h9, h9 = w3.heap.size := ⟨_, rfl⟩
    have HH9 := Lib.hid hh9
    have HBP := Lib.hid (hBp.trans (hB3.mono (by omega)))
    have HK0 := Lib.hid k0
    have HK1 := Lib.hid k1
    have HQ3 := Lib.hid hq3
    have hle9 : h + 2 < h9 := by omega
    rw [← HHE.out]
    clear hown3 hgrow3 hwp hszp hBp b0 b1 hq3 hle3 hB3 k0 k1 hh9
    gi_wp2
    refine ⟨trivial, ?_⟩
    refine (backward_in _ _ _ _ _).mono ?_
    rintro e w' ⟨rfl, rfl⟩
    gi_wp2
    obtain ⟨w0, hw0⟩ : ∃ w0, w0 = ((w3.alloc (.cells #[.slice (some ⟨h + 2, 0, none⟩) N N] 25)).alloc (.cells #[.slice (some ⟨h + 2, 0, none⟩) N N] 25)) := ⟨_, rfl⟩
    rw [← HH9.out, ← hw0]
    have hB0 : Below h9 w3 w0 := by rw [hw0]; exact ((Below.refl h9 w3).alloc (Nat.le_of_eq HH9.out) _).alloc (by rw [World.size_alloc, ← HH9.out]; omega) _
    have hsz0 : w0.heap.size = h9 + 2 := by rw [hw0, HH9.out]; simp
    have bS : Boxed w0 (h9 + 1) 25 (.slice (some ⟨h + 2, 0, none⟩) N N) := by
      have := Boxed.new (w3.alloc (.cells #[.slice (some ⟨h + 2, 0, none⟩) N N] 25)) 25 (.slice (some ⟨h + 2, 0, none⟩) N N)
      rw [World.size_alloc, ← HH9.out] at this
      rw [hw0]; exact this
    have bQ : Boxed w0 h9 25 (.slice (some ⟨h + 2, 0, none⟩) N N) := by
      have := (Boxed.new w3 25 (.slice (some ⟨h + 2, 0, none⟩) N N)).alloc (.cells #[.slice (some ⟨h + 2, 0, none⟩) N N] 25)
      rw [← HH9.out] at this
      rw [hw0]; exact this
    have hD0 : WB w h h9 N 256 (waS 256 p N []).1 (waS 256 p N []).2 w0 := ⟨(hB0.block h (by omega)).trans HK0.out, (hB0.block (h + 1) (by omega)).trans HK1.out, HQ3.out.below hB0 (by omega), bQ, HBP.out.trans (hB0.mono (by omega)), by omega⟩
    have HD0 := Lib.hid hD0
    have hQ0 : QN w0 (h + 2) N := ⟨_, tab_len _ _, tab_in fun s _ => (HP.out []).2 s, hD0.2.2.1⟩
    clear hB0 bQ hw0 hD0
    refine wpIn_rangeFunc_ownG rfl (by omega) (gf := 157) (lb := #[.pointer (some ⟨h9 + 1, 0, none⟩)]) rfl trivial (enters_of Try.func157 (by kernel_rfl) rfl)
      (Kp := KpQ (h9 + 1) (h + 2) N) (encs := fun q : Nat × Int => #[.int .i64 ((q.1 % N : Nat) : Int), .int .u16 (q.2 % 65536)]) (S := fun ys => ys.map (·.1) = descK N N) (Sp := fun pre => True) (N := N) (w0 := w0)
      (fun l J Jx W hW _ _ hY h0 => back1q_in _ l (h9 + 1) (h + 2) N (by omega) (by omega) J Jx hY _ ((hW.cell (p := ⟨h9 + 1, 0, none⟩) (by show h9 + 1 < w0.heap.size; omega)).trans bS.cell) (by obtain ⟨zs, e1, e2, e3⟩ := hQ0; exact ⟨zs, e1, e2, e3.below hW (by omega)⟩) h0)
      (fun h k => h.trans k) (fun W l o o' hl _ _ _ => KpQ.put W l o' (by omega) (by omega)) (Below.refl _ _) (fun _ => rfl)
      (fun pre W => WB w h h9 N 256 (waS 256 p N pre).1 (waS 256 p N pre).2 W)
      (fun _ _ _ => False)
      (WB.ownFrom HHE.out (by omega) (fun pre => (waS 256 p N pre).1) (fun pre => (waS 256 p N pre).2))
      (fun _ _ _ _ _ hs _ _ => hs)
      HD0.out
      ?_ ?assign256 ?body256 ?done256 ?stop256
    case assign256 =>
      intro l q W K hK
      gi_wp2
      exact hK
    case body256 =>
      rintro l pre pr W hD hlt
      obtain ⟨m, hm⟩ : ∃ m, m = pr.1 % N := ⟨_, rfl⟩
      have hmN : m < N := by rw [hm]; exact Nat.mod_lt _ (by omega)
      have hmi : (pr.1 : Int) % (N : Int) = (m : Int) := by rw [hm]; exact (Int.natCast_emod _ _).symm
      have hsn := HS.out pre pr
      unfold stepW at hsn
      rw [← hm] at hsn
      have hu := HP.out pre
      have hu2 := (HP.out (pre ++ [pr])).2
      obtain ⟨x, hx⟩ : ∃ x, x = (waS 256 p N pre).1 := ⟨_, rfl⟩
      obtain ⟨T, hT⟩ : ∃ T, T = (waS 256 p N pre).2 := ⟨_, rfl⟩
      rw [← hx, ← hT] at hD hsn
      rw [← hx] at hu
      obtain ⟨⟨x0, x1⟩, _⟩ := hu
      have r1 := Int.tmod_eq_emod_of_nonneg (a := x) (b := 256) x0
      have r2 := Int.tdiv_eq_ediv_of_nonneg (a := x) (b := 256) x0
      obtain ⟨z, hz⟩ : ∃ z, z = x % 256 := ⟨_, rfl⟩
      obtain ⟨x2, hx2⟩ : ∃ x2, x2 = x / 256 := ⟨_, rfl⟩
      have z1 : 0 ≤ z ∧ z < 65536 := by omega
      obtain ⟨z10, z11⟩ := z1
      have zw : IntKind.u16.wrap z = z := by rw [IntKind.wrap_u16]; omega
      have y1 : 0 ≤ x2 ∧ x2 ≤ 9223372036854775807 := by omega
      obtain ⟨y10, y11⟩ := y1
      rw [← hz] at r1 hsn
      rw [← hx2] at r2 hsn
      rw [hsn] at hu2
      have HU2 := Lib.hid hu2
      have HSN := Lib.hid hsn
      have hDd := hD.drew
      have hko : KeepsOthers W W.drew := KeepsOthers.drew W
      have hn9 : W.drew.heap[h9 + 1]? = W.heap[h9 + 1]? := rfl
      obtain ⟨wd, hwd⟩ : ∃ wd, wd = W.drew := ⟨_, rfl⟩
      rw [← hwd] at hDd hko hn9
      have HWD := Lib.hid hwd
      clear hwd hu2 hsn
      have q1 : wd.cell? ⟨h9, 0, none⟩ = _ := hDd.2.2.2.1.cell
      have q2 : wd.cell? ⟨h + 1, 0, none⟩ = _ := hDd.2.1.cell
      have q3 : wd.cell? ⟨h, 0, none⟩ = _ := hDd.1.cell
      have q6 : wd.frozen? ⟨h + 2, m, none⟩ = false := hDd.2.2.1.free m
      have q7 : wd.cell? ⟨h + 2, m, none⟩ = _ := hDd.2.2.1.tabcell2 m hmN
      have i5 : (m : Int) < (N : Int) := by omega
      have HSET := Lib.hid (hDd.setT hle9 m z)
      have HKO := Lib.hid (hko.trans (KeepsOthers.setCell wd ⟨h + 2, m, none⟩ (.int .u16 z)))
      have HN9 : Hid ((wd.setCell ⟨h + 2, m, none⟩ (.int .u16 z)).heap[h9 + 1]? = W.heap[h9 + 1]?) := Lib.hid ((Below.heap_setCell _ _ _ _ (by show h9 + 1 ≠ h + 2; omega)).trans hn9)
      clear hm hx hT hz hx2 hko hn9 hDd hD
      rw [hmi]
      gi_wp2
      refine region_round ?_ (fun w' => WB w h h9 N 256 x (put T m z) w' ∧ KeepsOthers W w' ∧ w'.heap[h9 + 1]? = W.heap[h9 + 1]?) (fun u => u.cell? ⟨h9, 0, none⟩ = some (.slice (some ⟨h + 2, 0, none⟩) N N) ∧ u.cell? ⟨h + 1, 0, none⟩ = some (.int .i64 x) ∧ u.cell? ⟨h, 0, none⟩ = some (.int .i64 256)) (by kernel_rfl) (by kernel_rfl) ?_ (fun hS => ?_) ?_
      rotate_left 1
      · rw [← HWD.out]; exact ⟨q1, q2, q3⟩
      · rw [← HWD.out] at hS ⊢
        refine takeH (i := 0) (v := ?v0256) rfl rfl (by kernel_rfl) (by kernel_rfl) (by kernel_rfl) (fun _ _ _ h => h) rfl ?hy0256 hS ?rs0256
        case hy0256 => (intro wq hq; obtain ⟨s1, s2, s3⟩ := hq; go_simp; try (with_reducible rfl))
        simp only [Act.put, List.setIfInBounds_toArray, List.set_cons_zero, List.set_cons_succ]
        refine takeH (i := 1) (v := ?v1256) rfl rfl (by kernel_rfl) (by kernel_rfl) (by kernel_rfl) (fun _ _ _ h => h) rfl ?hy1256 hS ?rs1256
        case hy1256 => (intro wq hq; obtain ⟨s1, s2, s3⟩ := hq; go_simp; try (with_reducible rfl))
        simp only [Act.put, List.setIfInBounds_toArray, List.set_cons_zero, List.set_cons_succ]
        refine takeH (i := 2) (v := ?v2256) rfl rfl (by kernel_rfl) (by kernel_rfl) (by kernel_rfl) (fun _ _ _ h => h) rfl ?hy2256 hS ?rs2256
        case hy2256 => (intro wq hq; obtain ⟨s1, s2, s3⟩ := hq; go_simp; try (with_reducible rfl))
        simp only [Act.put, List.setIfInBounds_toArray, List.set_cons_zero, List.set_cons_succ]
        refine takeH (i := 3) (v := ?v3256) rfl rfl (by kernel_rfl) (by kernel_rfl) (by kernel_rfl) (fun _ _ _ h => h) rfl ?hy3256 hS ?rs3256
        case hy3256 => (intro wq hq; obtain ⟨s1, s2, s3⟩ := hq; go_simp; try (with_reducible rfl))
        simp only [Act.put, List.setIfInBounds_toArray, List.set_cons_zero, List.set_cons_succ]
        refine takeH (i := 4) (v := ?v4256) rfl rfl (by kernel_rfl) (by kernel_rfl) (by kernel_rfl) (fun _ _ _ h => h) rfl ?hy4256 hS ?rs4256
        case hy4256 => (intro wq hq; obtain ⟨s1, s2, s3⟩ := hq; go_simp; try (with_reducible rfl))
        simp only [Act.put, List.setIfInBounds_toArray, List.set_cons_zero, List.set_cons_succ]
        refine takeH (i := 5) (v := ?v5256) rfl rfl (by kernel_rfl) (by kernel_rfl) (by kernel_rfl) (fun _ _ _ h => h) rfl ?hy5256 hS ?rs5256
        case hy5256 => (intro wq hq; obtain ⟨s1, s2, s3⟩ := hq; go_simp; try (with_reducible rfl))
        simp only [Act.put, List.setIfInBounds_toArray, List.set_cons_zero, List.set_cons_succ]
        refine takeH (i := 6) (v := ?v6256) rfl rfl (by kernel_rfl) (by kernel_rfl) (by kernel_rfl) (fun _ _ _ h => h) rfl ?hy6256 hS ?rs6256
        case hy6256 => (intro wq hq; obtain ⟨s1, s2, s3⟩ := hq; go_simp; try (with_reducible rfl))
        simp only [Act.put, List.setIfInBounds_toArray, List.set_cons_zero, List.set_cons_succ]
        refine wpAnyH_ready (rs := [7]) (by kernel_rfl) (by simp) ?_
        refine AllReadyH.cons rfl (fun K hK => ?_) AllReadyH.nil
        go_simp
        refine hK.out _ _ ⟨cell_far (by omega) hS.1, cell_far (by omega) hS.2.1, cell_far (by omega) hS.2.2⟩ (fun hS => ?_)
        clear hK
        refine wpAnyH_done (by kernel_rfl) ?_ _
        refine ⟨?_, HSET.out, HKO.out, HN9.out⟩
        with_unfolding_all rfl
      · clear HSET HKO HN9 q1 q2 q3 q6 q7 HWD
        rintro w5 ⟨hD5, hK5, hN5⟩
        have q2 : w5.cell? ⟨h + 1, 0, none⟩ = _ := hD5.2.1.cell
        have q3 : w5.cell? ⟨h, 0, none⟩ = _ := hD5.1.cell
        have q4 := hD5.2.1.frozen
        have HD6 := Lib.hid (hD5.setX hle9 x2)
        have HK6 := Lib.hid (hK5.trans (KeepsOthers.setCell w5 ⟨h + 1, 0, none⟩ (.int .i64 x2)))
        have HN6 : Hid ((w5.setCell ⟨h + 1, 0, none⟩ (.int .i64 x2)).heap[h9 + 1]? = W.heap[h9 + 1]?) := Lib.hid ((Below.heap_setCell _ _ _ _ (by show h9 + 1 ≠ h + 1; omega)).trans hN5)
        clear hD5 hK5 hN5
        gi_wp2
        refine ⟨HK6.out.from _, ⟨HN6.out, fun _ => ⟨_, tab_len _ _, tab_in fun s _ => HU2.out s, HD6.out.2.2.1⟩⟩, ?_⟩
        show WB w h h9 N 256 (waS 256 p N (pre ++ [pr])).1 (waS 256 p N (pre ++ [pr])).2 _
        rw [HSN.out]
        exact HD6.out
    case done256 =>
      rintro D ys W hDs hys hDB hKD
      obtain ⟨e1, e2⟩ := HEND.out ys hys
      have hrq := hDB.2.2.1
      rw [e2, H9.out] at hrq
      have q1 : W.cell? ⟨h9, 0, none⟩ = _ := hDB.2.2.2.1.cell
      have HDB := Lib.hid hDB
      have HRQ := Lib.hid hrq
      have HKD := Lib.hid hKD
      clear e1 e2 hDB hrq hKD hys
      gi_wp2
      have d := HDB.out
      have kd : W.heap[D]? = some (.deferred (some [])) := HKD.out
      have n1 : D ≠ h + 2 := by omega
      refine ⟨by simp, .inl ⟨_, _, rfl, run_takeDeferred kd, ?_⟩⟩
      refine ⟨_, results_tmp rfl _ _ _, _, rfl, ?_, ?_⟩
      all_goals rw [← HHE.out]
      · have r1 : RW (W.putObj D (.deferred none)) (h + 2) (waL 256 p N) := (World.putObj_heap_other (by omega)).trans HRQ.out
        have r2 := r1.po (B := h) HIN.out (by omega) (by rw [HL.out]; unfold maxLen; omega)
        rw [HL.out] at r2
        exact r2
      · exact d.2.2.2.2.1.trans (belowK_b (w := w0) (by omega) W D _ _ hDs kd rfl rfl)
    case stop256 =>
      rintro D c pre W _ _ h _
      exact h.elim
/-- WordAtPlace -/
def wpB (n L p : Int) : Bool := baB n && (inB L 1 7 && inB p 0 (n ^ L.toNat - 1))
def wpA (n L p : Int) : List Int := if wpB n L p then waL n p L.toNat else []
def wpC (n L p : Int) : Int := if wpB n L p then 0 else 2
theorem wp_no {n L p : Int} (h : wpB n L p = false) : wpA n L p = [] ∧ wpC n L p = 2 := by unfold wpA wpC; rw [h]; exact ⟨rfl, rfl⟩
theorem wp_yes {n L p : Int} (h : wpB n L p = true) : wpA n L p = waL n p L.toNat ∧ wpC n L p = 0 := by unfold wpA wpC; rw [h]; exact ⟨rfl, rfl⟩
theorem wpA_len (n L p : Int) : (wpA n L p).length ≤ 7 := by
  by_cases h : wpB n L p = true
  · rw [(wp_yes h).1, waL_len]
    unfold wpB inB at h
    simp only [Bool.and_eq_true, decide_eq_true_iff] at h
    omega
  · rw [(wp_no (by simpa using h)).1]; simp
theorem isLen2_any (n : Int) (w : World) :
    Calls Try.prog 92 #[.int .i64 n] w fun e w' => e = .returned (.bool (inB n 1 7)) ∧ w = w' := by
  have e0 : inB n 1 7 = (decide (1 ≤ n) && decide (n ≤ 7)) := by
    unfold inB; rw [Bool.eq_iff_iff, Bool.and_eq_true, decide_eq_true_iff, decide_eq_true_iff, decide_eq_true_iff]
  rw [e0]
  by_cases h1 : (1 : Int) ≤ n
  · have T1 : decide ((1 : Int) ≤ n) = true := decide_eq_true h1
    rw [T1]
    by_cases h7 : n ≤ 7
    · have T2 : decide (n ≤ 7) = true := decide_eq_true h7
      rw [T2]
      clear e0
      go_enter Try.func92, Try.ntmps92
      go_wp2_with fail
      go_ret
      exact ⟨rfl, rfl⟩
    · have T2 : decide (n ≤ 7) = false := decide_eq_false h7
      rw [T2]
      clear e0
      go_enter Try.func92, Try.ntmps92
      go_wp2_with fail
      go_ret
      exact ⟨rfl, rfl⟩
  · have T1 : decide ((1 : Int) ≤ n) = false := decide_eq_false h1
    rw [T1]
    clear e0
    go_enter Try.func92, Try.ntmps92
    go_wp2_with fail
    go_ret
    exact ⟨rfl, rfl⟩
set_option maxHeartbeats 2000000 in
theorem spec_WordAtPlace (n L p : Int) (bn : -9223372036854775808 ≤ n ∧ n ≤ 9223372036854775807) (bL : -9223372036854775808 ≤ L ∧ L ≤ 9223372036854775807) (bp : -9223372036854775808 ≤ p ∧ p ≤ 9223372036854775807) (w : World) :
    Calls Try.prog 41 #[.int .i64 n, .int .i64 L, .int .i64 p] w fun e w' => ∃ r, e = .returned (.tuple #[r, .int .i64 (wpC n L p)]) ∧ PO w' w.heap.size r (wpA n L p) ∧ Below w.heap.size w w' := by
  have hL := fun (h : inB L 1 7 = true) => (show ∃ N : Nat, L = (N : Int) ∧ 1 ≤ N ∧ N ≤ 7 from ⟨L.toNat, by unfold inB at h; simp only [decide_eq_true_iff] at h; omega⟩)
  obtain ⟨p0, p1⟩ := bp
  by_cases hb : baB n = true
  · have HB := Lib.hid hb
    by_cases hl : inB L 1 7 = true
    · obtain ⟨N, rfl, hN0, hN⟩ := hL hl
      have hpw := pw_b hb N hN
      have HL := Lib.hid hl
      obtain ⟨t, ht⟩ : ∃ t, t = n ^ N := ⟨_, rfl⟩
      have HT := Lib.hid ht
      by_cases hp : inB p 0 (t - 1) = true
      · have hy : wpB n (N : Int) p = true := by unfold wpB; rw [hb, hl, Int.toNat_natCast, ← ht, hp]; rfl
        rw [(wp_yes hy).1, (wp_yes hy).2, Int.toNat_natCast]
        rw [← ht] at hpw
        obtain ⟨t0, t1, _⟩ := hpw
        have hp0 : 0 ≤ p := by unfold inB at hp; simp only [decide_eq_true_iff] at hp; exact hp.1
        have HPI := Lib.hid hp
        clear hL hb hl hp hy ht
        go_enter Try.func41, Try.ntmps41
        go_wp2_with fail
        refine (l06Base_any n _).mono ?_
        rintro e w' ⟨rfl, rfl⟩
        rw [HB.out]
        go_wp2_with fail
        refine (l00In_any _ _ _ _).mono ?_
        rintro e w' ⟨rfl, rfl⟩
        rw [HL.out]
        go_wp2_with fail
        refine (l06All_any n HB.out N hN _).mono ?_
        rintro e w' ⟨rfl, rfl⟩
        rw [← HT.out]
        go_wp2_with fail
        refine (l00In_any _ _ _ _).mono ?_
        rintro e w' ⟨rfl, rfl⟩
        rw [HPI.out]
        go_wp2_with fail
        refine (l06At_any n HB.out N hN p hp0 p1 _).mono ?_
        rintro e w2 ⟨r, rfl, hr, hb2⟩
        obtain ⟨A1, c1, rfl, _⟩ := hr.form
        have HR := Lib.hid hr
        have HB2 := Lib.hid hb2
        clear hr hb2
        go_wp2_with fail
        go_ret2
        exact ⟨_, rfl, HR.out, HB2.out⟩
      · have hp' : inB p 0 (t - 1) = false := by simpa using hp
        have hy : wpB n (N : Int) p = false := by unfold wpB; rw [hb, hl, Int.toNat_natCast, ← ht, hp']; rfl
        rw [(wp_no hy).1, (wp_no hy).2]
        rw [← ht] at hpw
        obtain ⟨t0, t1, _⟩ := hpw
        have HPI := Lib.hid hp'
        clear hL hb hl hp hp' hy ht
        go_enter Try.func41, Try.ntmps41
        go_wp2_with fail
        refine (l06Base_any n _).mono ?_
        rintro e w' ⟨rfl, rfl⟩
        rw [HB.out]
        go_wp2_with fail
        refine (l00In_any _ _ _ _).mono ?_
        rintro e w' ⟨rfl, rfl⟩
        rw [HL.out]
        go_wp2_with fail
        refine (l06All_any n HB.out N hN _).mono ?_
        rintro e w' ⟨rfl, rfl⟩
        rw [← HT.out]
        go_wp2_with fail
        refine (l00In_any _ _ _ _).mono ?_
        rintro e w' ⟨rfl, rfl⟩
        rw [HPI.out]
        go_wp2_with fail
        go_ret2
        exact ⟨_, rfl, PO.nil _ _ _ _ (by first | exact Nat.zero_le _ | simp) (fun e => by first | rfl | cases e), (Below.refl _ _).alloc (Nat.le_refl _) _⟩
    · have hl' : inB L 1 7 = false := by simpa using hl
      have hy : wpB n L p = false := by unfold wpB; rw [hl']; simp
      rw [(wp_no hy).1, (wp_no hy).2]
      have HL := Lib.hid hl'
      clear hL hb hl hl' hy
      go_enter Try.func41, Try.ntmps41
      go_wp2_with fail
      refine (l06Base_any n _).mono ?_
      rintro e w' ⟨rfl, rfl⟩
      rw [HB.out]
      go_wp2_with fail
      refine (l00In_any _ _ _ _).mono ?_
      rintro e w' ⟨rfl, rfl⟩
      rw [HL.out]
      go_wp2_with fail
      go_ret2
      exact ⟨_, rfl, PO.nil _ _ _ _ (by first | exact Nat.zero_le _ | simp) (fun e => by first | rfl | cases e), (Below.refl _ _).alloc (Nat.le_refl _) _⟩
  · have hb' : baB n = false := by simpa using hb
    have hy : wpB n L p = false := by unfold wpB; rw [hb']; rfl
    rw [(wp_no hy).1, (wp_no hy).2]
    have HB := Lib.hid hb'
    clear hL hb hb' hy
    go_enter Try.func41, Try.ntmps41
    go_wp2_with fail
    refine (l06Base_any n _).mono ?_
    rintro e w' ⟨rfl, rfl⟩
    rw [HB.out]
    go_wp2_with fail
    go_ret2
    exact ⟨_, rfl, PO.nil _ _ _ _ (by first | exact Nat.zero_le _ | simp) (fun e => by first | rfl | cases e), (Below.refl _ _).alloc (Nat.le_refl _) _⟩
set_option maxHeartbeats 2000000 in
theorem impl_WordAtPlace (n L p : Int) (bn : -9223372036854775808 ≤ n ∧ n ≤ 9223372036854775807) (bL : -9223372036854775808 ≤ L ∧ L ≤ 9223372036854775807) (bp : -9223372036854775808 ≤ p ∧ p ≤ 9223372036854775807) (w : World) :
    Calls Try.prog 42 #[.int .i64 n, .int .i64 L, .int .i64 p] w fun e w' => ∃ r, e = .returned (.tuple #[r, .int .i64 (wpC n L p)]) ∧ PO w' w.heap.size r (wpA n L p) ∧ Below w.heap.size w w' := by
  have hL := fun (h : inB L 1 7 = true) => (show ∃ N : Nat, L = (N : Int) ∧ 1 ≤ N ∧ N ≤ 7 from ⟨L.toNat, by unfold inB at h; simp only [decide_eq_true_iff] at h; omega⟩)
  obtain ⟨p0, p1⟩ := bp
  have hO := openBase_nil n w
  by_cases hb : baB n = true
  · have HB := Lib.hid hb
    rw [show op0B n = n from by unfold op0B; rw [if_pos hb], show op0 n = 0 from by unfold op0; rw [if_pos hb]] at hO
    have HO := Lib.hid hO
    clear hO
    by_cases hl : inB L 1 7 = true
    · obtain ⟨N, rfl, hN0, hN⟩ := hL hl
      have hpw := pw_b hb N hN
      have HL := Lib.hid hl
      obtain ⟨t, ht⟩ : ∃ t, t = n ^ N := ⟨_, rfl⟩
      have HT := Lib.hid ht
      rw [← ht] at hpw
      obtain ⟨t0, t1, _⟩ := hpw
      by_cases hp0 : 0 ≤ p
      · have T1 : decide (p < 0) = false := by simp; omega
        by_cases hpt : t ≤ p
        · have T2 : decide (t ≤ p) = true := decide_eq_true hpt
          have hy : wpB n (N : Int) p = false := by
            unfold wpB; rw [hb, hl, Int.toNat_natCast, ← ht, show inB p 0 (t - 1) = false from by unfold inB; rw [decide_eq_false_iff_not]; omega]; rfl
          rw [(wp_no hy).1, (wp_no hy).2]
          clear hL hb hl hy ht
          go_enter Try.func42, Try.ntmps42
          go_wp2_with fail
          refine HO.out.mono ?_
          rintro e w1 ⟨rfl, hb1⟩
          have HB1 := Lib.hid hb1
          clear hb1
          go_wp2_with fail
          refine (isLen2_any _ _).mono ?_
          rintro e w' ⟨rfl, rfl⟩
          rw [HL.out]
          go_wp2_with fail
          refine (count_any n HB.out N hN _).mono ?_
          rintro e w' ⟨rfl, rfl⟩
          rw [← HT.out]
          go_wp2_with fail
          go_ret2
          exact ⟨_, rfl, PO.nil0 _ _, HB1.out⟩
        · have T2 : decide (t ≤ p) = false := decide_eq_false hpt
          have hy : wpB n (N : Int) p = true := by
            unfold wpB; rw [hb, hl, Int.toNat_natCast, ← ht, show inB p 0 (t - 1) = true from by unfold inB; rw [decide_eq_true_iff]; omega]; rfl
          rw [(wp_yes hy).1, (wp_yes hy).2, Int.toNat_natCast]
          clear hL hb hl hy ht
          go_enter Try.func42, Try.ntmps42
          go_wp2_with fail
          refine HO.out.mono ?_
          rintro e w1 ⟨rfl, hb1⟩
          have HB1 := Lib.hid hb1
          clear hb1
          go_wp2_with fail
          refine (isLen2_any _ _).mono ?_
          rintro e w' ⟨rfl, rfl⟩
          rw [HL.out]
          go_wp2_with fail
          refine (count_any n HB.out N hN _).mono ?_
          rintro e w' ⟨rfl, rfl⟩
          rw [← HT.out]
          go_wp2_with fail
          refine (wordAt_any n HB.out N hN0 hN p hp0 p1 _).mono ?_
          rintro e w2 ⟨r, rfl, hr, hb2⟩
          obtain ⟨A1, c1, rfl, _⟩ := hr.form
          have HR := Lib.hid (hr.lower HB1.out.size)
          have HB2 := Lib.hid (bchain HB1.out hb2)
          clear hr hb2
          go_wp2_with fail
          go_ret2
          exact ⟨_, rfl, HR.out, HB2.out⟩
      · have T1 : decide (p < 0) = true := by simp; omega
        have hy : wpB n (N : Int) p = false := by
          unfold wpB; rw [hb, hl, Int.toNat_natCast, ← ht, show inB p 0 (t - 1) = false from by unfold inB; rw [decide_eq_false_iff_not]; omega]; rfl
        rw [(wp_no hy).1, (wp_no hy).2]
        clear hL hb hl hy ht
        go_enter Try.func42, Try.ntmps42
        go_wp2_with fail
        refine HO.out.mono ?_
        rintro e w1 ⟨rfl, hb1⟩
        have HB1 := Lib.hid hb1
        clear hb1
        go_wp2_with fail
        refine (isLen2_any _ _).mono ?_
        rintro e w' ⟨rfl, rfl⟩
        rw [HL.out]
        go_wp2_with fail
        go_ret2
        exact ⟨_, rfl, PO.nil0 _ _, HB1.out⟩
    · have hl' : inB L 1 7 = false := by simpa using hl
      have hy : wpB n L p = false := by unfold wpB; rw [hl']; simp
      rw [(wp_no hy).1, (wp_no hy).2]
      have HL := Lib.hid hl'
      clear hL hb hl hl' hy
      go_enter Try.func42, Try.ntmps42
      go_wp2_with fail
      refine HO.out.mono ?_
      rintro e w1 ⟨rfl, hb1⟩
      have HB1 := Lib.hid hb1
      clear hb1
      go_wp2_with fail
      refine (isLen2_any _ _).mono ?_
      rintro e w' ⟨rfl, rfl⟩
      rw [HL.out]
      go_wp2_with fail
      go_ret2
      exact ⟨_, rfl, PO.nil0 _ _, HB1.out⟩
  · have hb' : baB n = false := by simpa using hb
    have hy : wpB n L p = false := by unfold wpB; rw [hb']; rfl
    rw [(wp_no hy).1, (wp_no hy).2]
    rw [show op0 n = 2 from by unfold op0; rw [if_neg hb]] at hO
    have HO := Lib.hid hO
    clear hO hL hb hb' hy
    go_enter Try.func42, Try.ntmps42
    go_wp2_with fail
    refine HO.out.mono ?_
    rintro e w1 ⟨rfl, hb1⟩
    have HB1 := Lib.hid hb1
    clear hb1
    go_wp2_with fail
    go_ret2
    exact ⟨_, rfl, PO.nil0 _ _, HB1.out⟩
end Go.Proofs.Ythhjhfkcgokffaa
