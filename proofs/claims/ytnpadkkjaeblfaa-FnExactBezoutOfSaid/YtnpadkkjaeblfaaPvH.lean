/-
  Division, of the program: what its loop keeps; a region that draws its order, held, inside a round; slices.Backward over cells that turn.
-/
import Derived.Deep.RegionWith
import Derived.Stop.RegionWithIn
import Derived.RangeFuncCalls
import Derived.OrdersIn
import Derived.OrdersHeld
import Derived.Test.YtnpadkkjaeblfaaPvY
import Derived.Test.YtnpadkkjaeblfaaPvE
namespace Go.Proofs.Ytnpadkkjaeblfaa
set_option linter.unusedVariables false
set_option linter.unusedSimpArgs false
open Go.ChangeShapes Go.WideShapes Go.ChangeAt Go.RowKit Go.Shelf
attribute [local go_sem] Oper.semAt_some

/-! a held region, inside a round -/
theorem wpIn_of_wp_round {l n : Nat} {P : Program} {o : Oper} {a : Act} {w : World} {K : Act → World → Prop} {Q : Exit → Act → World → Prop} (hs : o.semAt (some l) a.eval = execOp a.eval o)
    (h : o.wp P a w K Q) : o.wpIn (Fence.wide.inRound l) n P a w K Q := by
  unfold Oper.wp at h
  unfold Oper.wpIn
  refine ⟨fun f _ => trivial, ?_⟩
  rw [Fence.inRound_round, hs]
  generalize (execOp a.eval o).run P w = r at h
  cases r with
  | ok x w' =>
    cases x <;> simp only [Oper.upon, Oper.uponIn] at h ⊢ <;>
      first
        | exact h
        | exact ⟨fun e => (by rw [Fence.inRound_depth] at e; exact absurd e (by decide)), CallsIn.inRound l (callsIn_wide.2 h)⟩
        | exact ⟨fun e => (by rw [Fence.inRound_depth] at e; exact absurd e (by decide)), fun c cs _ => let ⟨v, w', r, s⟩ := h c cs; ⟨v, w', r, stepsIn_wide.2 s⟩⟩
  | halt x w' => cases x <;> simp only [Oper.upon, Oper.uponIn] at h ⊢ <;> exact h
theorem wpOpIn_of_wpOp {l n : Nat} {P : Program} {ops : Array Oper} {Q : Exit → Act → World → Prop} (hL : ¬ LetsOut Q) (hs : ∀ o ∈ ops, ∀ c, o.op ≠ .defer c) {i : Nat} {K K' : Act → World → Prop} (hK : ∀ a w, K a w → K' a w) {a : Act} {w : World}
    (h : wpOp P ops Q i K a w) : wpOpIn (Fence.wide.inRound l) n P ops Q i K' a w := by
  refine wpOpIn_mono hK ?_
  unfold wpOp at h
  unfold wpOpIn
  cases ho : ops[i]? with
  | none => simpa [ho] using h
  | some o =>
    simp only [ho] at h ⊢
    have hm : o ∈ ops := Array.mem_of_getElem? ho
    split
    · rename_i hw
      rw [if_pos hw] at h
      rcases h with h | ⟨_, h⟩
      · exact wpIn_of_wp_round (Oper.semAt_some l _ _ (hs o hm)) h
      · exact absurd h hL
    · rename_i hw
      rw [if_neg hw] at h
      exact ⟨fun f _ => trivial, h⟩
theorem wpAnyIn_of_wpAny {l n : Nat} {P : Program} {md : Region.Mode} {ops : Array Oper} {Q : Exit → Act → World → Prop} (hL : ¬ LetsOut Q) (hs : ∀ o ∈ ops, ∀ c, o.op ≠ .defer c) :
    ∀ (fuel : Nat) (listed : Array Bool) (a : Act) (w : World), wpAny P md ops Q fuel listed a w → wpAnyIn (Fence.wide.inRound l) n P md ops Q fuel listed a w
  | 0, _, _, _, h => h
  | fuel + 1, _, _, _, h => ⟨h.1, fun i hi => wpOpIn_of_wpOp hL hs (fun a w hh => wpAnyIn_of_wpAny hL hs fuel _ a w hh) (h.2 i hi)⟩
def noDefer (ops : Array Oper) : Bool := ops.all fun o => match o.op with | .defer _ => false | _ => true
theorem noDefer_spec {ops : Array Oper} (h : noDefer ops = true) : ∀ o ∈ ops, ∀ c, o.op ≠ .defer c := by
  intro o ho c hc
  unfold noDefer at h
  rw [Array.all_eq_true_iff_forall_mem] at h
  have := h o ho
  rw [hc] at this
  cases this
def postN (A : Act) (R : World → Prop) : Exit → Act → World → Prop
  | .normal, a, w => a = A ∧ R w
  | _, _, _ => False
/-- a region that draws its order, in a round, walked held for a post of its own -/
theorem region_round {l n id : Nat} {P : Program} {ops : Array Oper} {Q : Exit → Act → World → Prop} {a : Act} {w : World} (A : Act) (R : World → Prop) (S : World → Prop)
    (hm : P.follows .mixedOrders = true) (hs : noDefer ops = true) (hS : S w.drew)
    (h : S w.drew → wpAnyH P .any ops (postN A R) S ops.size (Array.replicate ops.size false) a w.drew)
    (h2 : ∀ w', R w' → Q .normal A w') : (Code.region id ops true).wpIn (Fence.wide.inRound l) n P Q a w := by
  refine Code.wpIn_mono (Q := postN A R) (fun x a' w' hx => ?_) ?_
  · cases x with
    | normal => obtain ⟨rfl, hr⟩ := hx; exact h2 w' hr
    | _ => exact hx.elim
  · refine wpIn_region_any hm ?_
    refine wpAnyIn_of_wpAny ?_ (noDefer_spec hs) _ _ _ _ (wpAny_of_held _ _ _ _ (h hS))
    rintro ⟨_, _, e⟩
    exact e
/-- and outside of one -/
theorem region_wide {n id : Nat} {P : Program} {ops : Array Oper} {Q : Exit → Act → World → Prop} {a : Act} {w : World} (A : Act) (R : World → Prop) (S : World → Prop)
    (hm : P.follows .mixedOrders = true) (hS : S w.drew)
    (h : S w.drew → wpAnyH P .any ops (postN A R) S ops.size (Array.replicate ops.size false) a w.drew)
    (h2 : ∀ w', R w' → Q .normal A w') : (Code.region id ops true).wpIn Fence.wide n P Q a w := by
  refine Code.wpIn_mono (Q := postN A R) (fun x a' w' hx => ?_) ?_
  · cases x with
    | normal => obtain ⟨rfl, hr⟩ := hx; exact h2 w' hr
    | _ => exact hx.elim
  · exact wpIn_wide.2 (wp_region_held_drew hm hS h)
theorem cell_far {u : World} {b o g i : Nat} {v x : Value} (hb : g ≠ b) (h : u.cell? ⟨b, o, none⟩ = some x) : (u.setCell ⟨g, i, none⟩ v).cell? ⟨b, o, none⟩ = some x :=
  (World.cell?_setCell_far u ⟨g, i, none⟩ ⟨b, o, none⟩ v hb).trans h
theorem wpListIn_make_full {F : Fence} {n : Nat} {P : Program} (w : World) {ops : Array Oper} {rest : List Oper} {o : Oper} {a : Act} {Q : Exit → Act → World → Prop}
    (hg : o.guard = none) (l c : Operand) (t : TypeId) (hop : o.op = Op.makeSlice t l c)
    (base : Nat) (e : TypeId) (i : TypeInfo) (z : Value) (size : Nat) (h1 : P.underlying t = some (.slice e)) (h2 : P.info? e = some i) (h3 : i.zero = some z) (h4 : i.size = size)
    (kl kc : IntKind) (L C : Int) (m : Nat) (hl : a.eval l = .int kl L) (hc : a.eval c = .int kc C) (hL : L = (m : Int)) (hC : C = (m : Int)) (b2 : i.bytes * m ≤ 281474976710656) (b3 : m ≤ maxLen) (b4 : base ≤ w.heap.size)
    (hK : ∀ w', w'.ownsRow base e size (.slice (some ⟨w.heap.size, 0, none⟩) m m) m (madeCells z.cells (m * size)).toList → w.grownBy w' none → wpListIn F n P ops Q rest (a.put o.dst (.slice (some ⟨w.heap.size, 0, none⟩) m m)) w') :
    wpListIn F n P ops Q (o :: rest) a w := by
  refine wpListIn_plain hg fun K hK' => ?_
  obtain ⟨w', hrun, r1, r2⟩ := run_make_full (P := P) w base t e i z size h1 h2 h3 h4 kl kc m b2 b3 b4
  subst hL
  subst hC
  unfold Oper.wpIn
  refine ⟨?_, ?_⟩
  · simp [Oper.about, hop]
  · rw [Oper.semAt_plain F _ _ (by rw [hop]; intro c hc'; cases hc')]
    simp [execOp, hop, hl, hc, hrun, Result.andThen]
    exact hK' _ _ (hK w' r1 r2)

/-! the loop's cells -/
theorem rw_own (g : Nat) {β : Type} (f : β → List Int) : Own (fun s W => RW W g (f s)) := by
  intro s W W' row h hg hr
  refine (hg.block g h.lt ?_).trans h
  intro e
  obtain ⟨o, ho, hc⟩ := hr g e.symm
  have : W.heap[g]? = some (.cells (u16s (f s)).toArray 41 (0, 0)) := h
  rw [this] at ho
  cases ho
  cases hc
theorem row_own (n0 : Nat) (v : Value) (n : Nat) {β : Type} (f : β → List Int) : Own (fun s W => W.ownsRow n0 41 1 v n (u16s (f s))) := by
  intro s X Y row hr hg hrow
  refine hr.kept hg ?_
  rcases hr.2 with ⟨rfl, _⟩ | ⟨g, cap, cur, rfl, _, hgb, _⟩
  · exact .inl rfl
  · refine .inr fun e' => ?_
    obtain ⟨o, ho, hc⟩ := hrow g (by simpa [Value.ownBlock] using e'.symm)
    rw [hgb] at ho; cases ho; cases hc
def DB (w : World) (h hr h9 : Nat) (vb : Value) (p : Nat) (iv : Int) (A1 : Option Addr) (n c1 m : Nat) (f T : Nat → Int) (W : World) : Prop :=
  Boxed W h 25 vb ∧ Boxed W (h + 1) 3 (.int .i64 (p : Int)) ∧ Boxed W (h + 2) 41 (.int .u16 iv) ∧
  Boxed W hr 25 (.slice A1 n c1) ∧ Boxed W h9 25 (.slice (some ⟨hr + 1, 0, none⟩) m m) ∧
  RW W (hr + 1) (tab m T) ∧ W.ownsRow (h + 3) 41 1 (.slice A1 n c1) n (u16s (tab n f)) ∧ Below h w W ∧ h9 + 2 ≤ W.heap.size
section
variable {w W : World} {h hr h9 p n c1 m : Nat} {vb : Value} {iv : Int} {A1 : Option Addr} {f T : Nat → Int}
theorem DB.ownFrom {β : Type} {B : Nat} (hw : h = w.heap.size) (hB : h ≤ B) (fs Ts : β → Nat → Int) : OwnFrom B (fun s W => DB w h hr h9 vb p iv A1 n c1 m (fs s) (Ts s) W) := by
  rintro s W W' row ⟨a1, a2, a3, a4, a5, a6, a7, a8, a9⟩ hg hrow
  have hr2 := fun r e => (hrow r e).2
  exact ⟨boxed_own h _ (fun _ : β => vb) s W W' row a1 hg hr2, boxed_own _ _ (fun _ : β => Value.int .i64 (p : Int)) s W W' row a2 hg hr2, boxed_own _ _ (fun _ : β => Value.int .u16 iv) s W W' row a3 hg hr2,
    boxed_own _ _ (fun _ : β => Value.slice A1 n c1) s W W' row a4 hg hr2, boxed_own _ _ (fun _ : β => Value.slice (some ⟨hr + 1, 0, none⟩) m m) s W W' row a5 hg hr2, rw_own _ (fun s => tab m (Ts s)) s W W' row a6 hg hr2,
    row_own _ _ _ (fun s => tab n (fs s)) s W W' row a7 hg hr2, ownFrom_below (Nat.le_of_eq hw) hB s W W' row a8 hg hrow, Nat.le_trans a9 hg.size⟩
theorem DB.drew (d : DB w h hr h9 vb p iv A1 n c1 m f T W) : DB w h hr h9 vb p iv A1 n c1 m f T W.drew := by
  obtain ⟨a1, a2, a3, a4, a5, a6, a7, a8, a9⟩ := d
  exact ⟨a1, a2, a3, a4, a5, a6, own_below a7 (drew_b (Below.refl _ W)), drew_b a8, a9⟩
theorem boxed_far {W : World} {B g i : Nat} {t : TypeId} {v x : Value} (h : Boxed W B t v) (hne : B ≠ g) : Boxed (W.setCell ⟨g, i, none⟩ x) B t v :=
  (Below.heap_setCell _ _ _ _ hne).trans h
theorem DB.setQ (d : DB w h hr h9 vb p iv A1 n c1 m f T W) (h3 : h + 3 ≤ hr) (h5 : hr + 1 < h9) (hA : ∀ b off, A1 = some ⟨b, off, none⟩ → b < hr) (k : Nat) (x : Int) :
    DB w h hr h9 vb p iv A1 n c1 m f (put T k x) (W.setCell ⟨hr + 1, k, none⟩ (.int .u16 x)) := by
  obtain ⟨a1, a2, a3, a4, a5, a6, a7, a8, a9⟩ := d
  refine ⟨boxed_far a1 (by omega), boxed_far a2 (by omega), boxed_far a3 (by omega), boxed_far a4 (by omega), boxed_far a5 (by omega), ?_, ?_, a8.setCell (p := ⟨hr + 1, k, none⟩) (by show h ≤ hr + 1; omega) _, by simpa [World.setCell] using a9⟩
  · have := a6.set k x
    rwa [tab_set] at this
  · refine a7.kept (row := some (hr + 1)) ⟨rfl, rfl, rfl, by simp [World.setCell], fun j _ hj => Below.heap_setCell _ _ _ _ (fun e => hj (by rw [e]))⟩ ?_
    rcases a7.2 with ⟨e, _⟩ | ⟨g, cap, cur, e, _⟩
    · exact .inl (by rw [e]; rfl)
    · right
      obtain ⟨e1, _⟩ := Value.slice.inj e
      have := hA g 0 e1
      rw [e]
      simp [Value.ownBlock]
      omega
theorem DB.setR {g1 : Nat} (d : DB w h hr h9 vb p iv (some ⟨g1, 0, none⟩) n c1 m f T W) (h3 : h + 3 ≤ g1) (h4 : g1 < hr) (h5 : hr + 1 < h9) (s : Nat) (x : Int) :
    DB w h hr h9 vb p iv (some ⟨g1, 0, none⟩) n c1 m (put f s x) T (W.setCell ⟨g1, s, none⟩ (.int .u16 x)) := by
  obtain ⟨a1, a2, a3, a4, a5, a6, a7, a8, a9⟩ := d
  refine ⟨boxed_far a1 (by omega), boxed_far a2 (by omega), boxed_far a3 (by omega), boxed_far a4 (by omega), boxed_far a5 (by omega), a6.other (by omega) _, ?_, a8.setCell (p := ⟨g1, s, none⟩) (by show h ≤ g1; omega) _, by simpa [World.setCell] using a9⟩
  have := own_put a7 s x
  rwa [tab_set] at this
end

/-! the rounds -/
def stepD (b : List Int) (m : Nat) (st : (Nat → Int) × (Nat → Int)) (p : Nat × Int) : (Nat → Int) × (Nat → Int) :=
  (divIn b (p.1 % m) (divQ b st.1 (p.1 % m)) st.1 b.length, put st.2 (p.1 % m) (divQ b st.1 (p.1 % m)))
def divS (a b : List Int) (m : Nat) (ys : List (Nat × Int)) : (Nat → Int) × (Nat → Int) := ys.foldl (stepD b m) (fun s => a.getD s 0, fun _ => 0)
theorem divS_snoc (a b : List Int) (m : Nat) (ys : List (Nat × Int)) (p : Nat × Int) : divS a b m (ys ++ [p]) = stepD b m (divS a b m ys) p := by unfold divS; rw [List.foldl_append]; rfl
theorem divS_u {a b : List Int} (ha : inU a) (hb : inU b) (m : Nat) (ys : List (Nat × Int)) : (∀ s, 0 ≤ (divS a b m ys).1 s ∧ (divS a b m ys).1 s < 65536) ∧ (∀ s, 0 ≤ (divS a b m ys).2 s ∧ (divS a b m ys).2 s < 65536) := by
  have main : ∀ (ys : List (Nat × Int)) (st : (Nat → Int) × (Nat → Int)), ((∀ s, 0 ≤ st.1 s ∧ st.1 s < 65536) ∧ (∀ s, 0 ≤ st.2 s ∧ st.2 s < 65536)) →
      ((∀ s, 0 ≤ (ys.foldl (stepD b m) st).1 s ∧ (ys.foldl (stepD b m) st).1 s < 65536) ∧ (∀ s, 0 ≤ (ys.foldl (stepD b m) st).2 s ∧ (ys.foldl (stepD b m) st).2 s < 65536)) := by
    intro ys
    induction ys with
    | nil => exact fun st h => h
    | cons y ys ih => exact fun st h => ih _ ⟨fun s => divIn_u hb (divQ_u hb h.1 _) h.1 _ s, fun s => put_u h.2 _ (divQ_u hb h.1 _) s⟩
  exact main ys _ ⟨fun s => ha.at s, fun s => by show (0 : Int) ≤ 0 ∧ (0 : Int) < 65536; decide⟩
def descK (m j : Nat) : List Nat := (List.range j).map fun i => m - 1 - i
theorem descK_snoc (m j : Nat) : descK m (j + 1) = descK m j ++ [m - 1 - j] := by unfold descK; rw [List.range_succ, List.map_append]; rfl
theorem divS_end (a b : List Int) (m : Nat) : ∀ j, j ≤ m → ∀ ys : List (Nat × Int), ys.map (·.1) = descK m j → (divS a b m ys).1 = divR a b m j ∧ tab m (divS a b m ys).2 = tab m (divT a b m j)
  | 0, _, ys, h => by
    have e : ys = [] := by cases ys with
      | nil => rfl
      | cons y ys => simp [descK] at h
    subst e
    exact ⟨rfl, (divT_zero a b m).symm⟩
  | j + 1, hj, ys, h => by
    rw [descK_snoc] at h
    rcases List.eq_nil_or_concat ys with e | ⟨ys', p, e⟩
    · subst e; simp at h
    · rw [List.concat_eq_append] at e
      subst e
      rw [List.map_append] at h
      obtain ⟨e1, e2⟩ := List.append_inj' h rfl
      obtain ⟨i1, i2⟩ := divS_end a b m j (by omega) ys' e1
      have e3 : p.1 = m - 1 - j := by simpa using e2
      have e4 : p.1 % m = m - 1 - j := by rw [e3]; exact Nat.mod_eq_of_lt (by omega)
      rw [divS_snoc]
      unfold stepD
      rw [e4]
      refine ⟨?_, ?_⟩
      · show divIn b (m - 1 - j) (divQ b (divS a b m ys').1 (m - 1 - j)) (divS a b m ys').1 b.length = _
        rw [i1]; rfl
      · show tab m (put (divS a b m ys').2 (m - 1 - j) (divQ b (divS a b m ys').1 (m - 1 - j))) = _
        rw [← tab_set, i2, i1, divT_next a b (by omega)]
theorem divIn_put (b : List Int) (k : Nat) (q : Int) (f : Nat → Int) (i : Nat) : put (divIn b k q f i) (k + i) (xorI (f (k + i)) (mulI q (b.getD i 0))) = divIn b k q f (i + 1) := by
  funext s
  unfold put divIn
  by_cases e : s = k + i
  · subst e; rw [if_pos rfl, if_pos (by omega), show k + i - k = i from by omega]
  · rw [if_neg e]
    by_cases h1 : k ≤ s ∧ s < k + i
    · rw [if_pos h1, if_pos (by omega)]
    · rw [if_neg h1, if_neg (by omega)]

theorem pQuo_tab (a b : List Int) : pQuo a b = tab (quoM a b) (divT a b (quoM a b) (quoM a b)) := by
  by_cases h : a.length < b.length
  · rw [pQuo_short h, show quoM a b = 0 from by unfold quoM; omega]; rfl
  · rw [pQuo_long h]
/-- the rest as the loop leaves it, not trimmed -/
def pLeft (a b : List Int) : List Int := (tab a.length (divR a b (quoM a b) (quoM a b))).take (if a.length < b.length then a.length else b.length - 1)
theorem pLeft_trim {a b : List Int} (ha : inU a) (hb : inU b) (hta : topP a) (hn : 1 ≤ b.length) (ht : b.getD (b.length - 1) 0 ≠ 0) : pTrim (pLeft a b) = pRem a b := by
  unfold pLeft
  by_cases h : a.length < b.length
  · rw [if_pos h, pRem_short h, show quoM a b = 0 from by unfold quoM; omega]
    have e : tab a.length (divR a b 0 0) = a := (list_tab a).symm
    rw [e, List.take_length, pTrim_id hta]
  · rw [if_neg h, pRem_cut ha hb hn ht h, take_tab _ _ _ (by omega)]
theorem pLeft_in {a b : List Int} (ha : inU a) (hb : inU b) : inU (pLeft a b) := inU.take (tab_in fun s _ => divR_u ha hb _ _ s) _
theorem pLeft_len (a b : List Int) : (pLeft a b).length ≤ a.length := by
  unfold pLeft
  rw [List.length_take, tab_len]
  omega

/-! slices.Backward over cells that turn in the rounds -/
def QN (W : World) (g m : Nat) : Prop := ∃ zs, zs.length = m ∧ inU zs ∧ RW W g zs
def KpQ (Bn g m : Nat) (W W' : World) : Prop := W'.heap[Bn]? = W.heap[Bn]? ∧ (QN W g m → QN W' g m)
theorem KpQ.trans {Bn g m : Nat} {X Y Z : World} (a : KpQ Bn g m X Y) (b : KpQ Bn g m Y Z) : KpQ Bn g m X Z := ⟨b.1.trans a.1, fun h => b.2 (a.2 h)⟩
theorem KpQ.put {Bn g m : Nat} (W : World) (l : Nat) (o : Obj) (h1 : Bn < l) (h2 : g < l) : KpQ Bn g m W (W.putObj l o) :=
  ⟨World.putObj_heap_other (by omega), fun ⟨zs, e, hu, hr⟩ => ⟨zs, e, hu, (World.putObj_heap_other (by omega)).trans hr⟩⟩
set_option maxRecDepth 100000 in
set_option maxHeartbeats 2000000 in
theorem back1q_in (n l Bn g m : Nat) (hn : 1 ≤ n) (hz : m ≤ 1048576) (J Jx : List (Nat × Int) → World → Prop)
    (hY : ∀ pre x W, J pre W → pre.length < m → YieldAt Fence.wide (n - 1) Try.prog l #[.int .i64 ((x.1 % m : Nat) : Int), .int .u16 (x.2 % 65536)] W fun e W' =>
      (e = .returned (.bool true) ∧ J (pre ++ [x]) W' ∧ KpQ Bn g m W W') ∨ (e = .returned (.bool false) ∧ Jx (pre ++ [x]) W'))
    (W : World) (hBn : W.cell? ⟨Bn, 0, none⟩ = some (.slice (some ⟨g, 0, none⟩) m m)) (hQ : QN W g m) (h0 : J [] W) :
    CallsIn Fence.wide n Try.prog 151 #[.func (.yield l) #[] #[], .pointer (some ⟨Bn, 0, none⟩)] W fun e W' => (∃ v, e = .returned v) ∧
      ((∃ ys : List (Nat × Int), ys.map (·.1) = descK m m ∧ J ys W') ∨ (∃ pre, True ∧ Jx pre W')) := by
  have HY := Lib.hid hY
  have HQ := Lib.hid hQ
  clear hY hQ
  refine callsIn_of_wp Try.func151 rfl trivial ?_ rfl
  simp only [Try.ntmps151, List.size_toArray, List.length_cons, List.length_nil, Nat.reduceAdd, Nat.reduceSub, Array.replicate_succ, Array.replicate_zero, List.push_toArray, List.append_toArray, List.nil_append, List.cons_append]
  gi_wp2
  gi_loopw [3] (fun y wr => ∃ k : Nat, y = .int .i64 ((m : Int) - 1 - (k : Int)) ∧ k ≤ m ∧ (∃ pre : List (Nat × Int), pre.map (·.1) = descK m k ∧ J pre wr) ∧ wr.cell? ⟨Bn, 0, none⟩ = some (.slice (some ⟨g, 0, none⟩) m m) ∧ Hid (QN wr g m))
    (fun y wr => (intOf y + 1).toNat)
  case atStart => exact ⟨0, by first | rfl | simp, Nat.zero_le _, ⟨[], rfl, h0⟩, hBn, HQ⟩
  case round =>
    clear h0 hBn HQ
    obtain ⟨k, rfl, hk, ⟨pre, hpre, hJ⟩, hc, HQ⟩ := hrel
    by_cases hlt : k < m
    · obtain ⟨t, ht⟩ : ∃ t, t = m - 1 - k := ⟨_, rfl⟩
      have hmi : (m : Int) - 1 - (k : Int) = (t : Int) := by omega
      obtain ⟨zs, hzl, hzu, hrw⟩ := HQ.out
      have q1 : wr.cell? ⟨g, t, none⟩ = _ := hrw.cell t (by omega)
      have i1 : (t : Int) < (m : Int) := by omega
      have T1 : decide (0 ≤ (t : Int)) = true := by simp
      obtain ⟨x, hx⟩ : ∃ x, x = zs.getD t 0 := ⟨_, rfl⟩
      have hxu : x % 65536 = x := by
        have hr := hzu.at t
        rw [← hx] at hr
        omega
      rw [← hx] at q1
      rw [← hxu] at q1
      have hpl : pre.length = k := by have e := congrArg List.length hpre; simpa [descK] using e
      have hyy := HY.out pre (t, x) wr hJ (by omega)
      rw [show ((t, x) : Nat × Int).1 = t from rfl, show ((t, x) : Nat × Int).2 = x from rfl, show t % m = t from Nat.mod_eq_of_lt (by omega)] at hyy
      obtain ⟨fn, tmps, assign, body, hy, hR⟩ := hyy
      have hsn : (pre ++ [((t, x) : Nat × Int)]).map (·.1) = descK m (k + 1) := by rw [List.map_append, hpre, descK_snoc, ← ht]; rfl
      have HSN := Lib.hid hsn
      have hnx : (t : Int) - 1 = (m : Int) - 1 - ((k + 1 : Nat) : Int) := by omega
      have HNX := Lib.hid hnx
      have hms : (t : Int) + 1 = (m : Int) - (k : Int) := by omega
      rw [hmi]
      clear hsn ht hmi hnx hx hxu hrw hpre hzl hzu
      gi_wp2
      refine hR.mono ?_
      rintro e W3 (⟨rfl, hJ3, hk3⟩ | ⟨rfl, hJx3⟩)
      · have hc3 : W3.cell? ⟨Bn, 0, none⟩ = some (.slice (some ⟨g, 0, none⟩) m m) := (cell_same hk3.1).trans hc
        have HQ3 := Lib.hid (hk3.2 HQ.out)
        clear hJ hk3 hy hR hc HQ q1
        gi_wp2
        go_roundw
        case rel => exact ⟨k + 1, by rw [← HNX.out], by omega, ⟨_, HSN.out, hJ3⟩, hc3, HQ3⟩
        case measure => first | (simp [intOf]; done) | (simp [intOf]; omega)
      · gi_wp2
        first | go_end0 | refine bodyPost_ret (results_none rfl _ _ _) rfl ?_
        exact ⟨⟨_, rfl⟩, .inr ⟨_, trivial, hJx3⟩⟩
    · obtain rfl : k = m := by omega
      have T1 : decide (0 ≤ (k : Int) - 1 - (k : Int)) = false := by simp; omega
      gi_wp2
      first | go_end0 | refine bodyPost_ret (results_none rfl _ _ _) rfl ?_
      exact ⟨⟨_, rfl⟩, .inl ⟨_, hpre, hJ⟩⟩
end Go.Proofs.Ytnpadkkjaeblfaa
