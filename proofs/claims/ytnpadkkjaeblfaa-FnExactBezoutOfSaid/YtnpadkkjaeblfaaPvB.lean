/-
  Values of polynomials: of the program (a range over a function) and of the model; PolyAt.
-/
import Derived.RangeFuncBox
import Derived.RangeFuncLeaves
import Derived.Shelf.Abstract
import Derived.WalkKit
import Derived.OwnWalkIn
import Derived.TacticsInMore
import Derived.LoopNIn
import Derived.LoopIn
import Derived.Maps.AppendAt
import Derived.Test.YtnpadkkjaeblfaaPvK
namespace Go.Proofs.Ytnpadkkjaeblfaa
set_option linter.unusedVariables false
set_option linter.unusedSimpArgs false
open Go.ChangeShapes Go.WideShapes Go.ChangeAt Go.RowKit Go.Shelf
attribute [local go_sem] Oper.semAt_some

/-- what slices.Backward yields: k of it -/
def backK (zs : List Int) (k : Nat) : List (Int × Int) := (List.range k).map fun j => (((zs.length - 1 - j : Nat) : Int), zs.getD (zs.length - 1 - j) 0)
theorem backK_len (zs : List Int) (k : Nat) : (backK zs k).length = k := by simp [backK]
theorem backK_snoc (zs : List Int) (k : Nat) : backK zs k ++ [(((zs.length - 1 - k : Nat) : Int), zs.getD (zs.length - 1 - k) 0)] = backK zs (k + 1) := by unfold backK; rw [List.range_succ, List.map_append]; rfl
theorem backK_pre (zs : List Int) (p k : Nat) (h : k ≤ p) : backK zs k <+: backK zs p := by
  refine ⟨(List.range (p - k)).map (fun i => (((zs.length - 1 - (k + i) : Nat) : Int), zs.getD (zs.length - 1 - (k + i)) 0)), ?_⟩
  unfold backK
  have e := List.range_add (n := k) (m := p - k)
  rw [show k + (p - k) = p from by omega] at e
  rw [e, List.map_append, List.map_map]; rfl
set_option maxRecDepth 100000 in
set_option maxHeartbeats 2000000 in
theorem back1_in (n l Bn : Nat) (hn : 1 ≤ n) (A : Option Addr) (c : Nat) (zs : List Int) (hz : zs.length ≤ 1048576) (J Jx : List (Int × Int) → World → Prop) (Kp : World → World → Prop)
    (hKp : ∀ W W', Kp W W' → (W.cell? ⟨Bn, 0, none⟩ = some (.slice A zs.length c) ∧ NS W (.slice A zs.length c) zs) → (W'.cell? ⟨Bn, 0, none⟩ = some (.slice A zs.length c) ∧ NS W' (.slice A zs.length c) zs))
    (hY : ∀ pre x W, J pre W → pre.length < zs.length → YieldAt Fence.wide (n - 1) Try.prog l #[.int .i64 x.1, .int .u16 (x.2 % 65536)] W fun e W' =>
      (e = .returned (.bool true) ∧ J (pre ++ [x]) W' ∧ Kp W W') ∨ (e = .returned (.bool false) ∧ Jx (pre ++ [x]) W'))
    (W : World) (hBn : W.cell? ⟨Bn, 0, none⟩ = some (.slice A zs.length c)) (hNS : NS W (.slice A zs.length c) zs) (h0 : J [] W) :
    CallsIn Fence.wide n Try.prog 151 #[.func (.yield l) #[] #[], .pointer (some ⟨Bn, 0, none⟩)] W fun e W' => (∃ v, e = .returned v) ∧
      ((∃ ys, ys = backK zs zs.length ∧ J ys W') ∨ (∃ pre, pre <+: backK zs zs.length ∧ Jx pre W')) := by
  have HK := Lib.hid hKp
  have HY := Lib.hid hY
  clear hKp hY
  refine callsIn_of_wp Try.func151 rfl trivial ?_ rfl
  simp only [Try.ntmps151, List.size_toArray, List.length_cons, List.length_nil, Nat.reduceAdd, Nat.reduceSub, Array.replicate_succ, Array.replicate_zero, List.push_toArray, List.append_toArray, List.nil_append, List.cons_append]
  gi_wp2
  gi_loopw [3] (fun y wr => ∃ k : Nat, y = .int .i64 ((zs.length : Int) - 1 - (k : Int)) ∧ k ≤ zs.length ∧ J (backK zs k) wr ∧ wr.cell? ⟨Bn, 0, none⟩ = some (.slice A zs.length c) ∧ Hid (NS wr (.slice A zs.length c) zs))
    (fun y wr => (intOf y + 1).toNat)
  case atStart => exact ⟨0, by first | rfl | simp, Nat.zero_le _, h0, hBn, Lib.hid hNS⟩
  case round =>
    clear h0 hBn hNS
    obtain ⟨k, rfl, hk, hJ, hc, HN⟩ := hrel
    by_cases hlt : k < zs.length
    · obtain ⟨m, hm⟩ : ∃ m, m = zs.length - 1 - k := ⟨_, rfl⟩
      have hmi : (zs.length : Int) - 1 - (k : Int) = (m : Int) := by omega
      have hmi2 : ((zs.length - 1 - k : Nat) : Int) = (m : Int) := by omega
      obtain ⟨b, off, rfl, hlb, hcell⟩ := HN.out.spot.2 (by omega)
      have q1 := hcell m (by omega)
      have i1 : (m : Int) < (zs.length : Int) := by omega
      have T1 : decide (0 ≤ (m : Int)) = true := by simp
      obtain ⟨x, hx⟩ : ∃ x, x = zs.getD m 0 := ⟨_, rfl⟩
      have hxr := (HN.out.all)
      have hxu : x % 65536 = x := by
        have hr := (inU.at (zs := zs) hxr m)
        rw [← hx] at hr
        omega
      rw [← hx] at q1
      rw [← hxu] at q1
      clear hxr
      obtain ⟨fn, tmps, assign, body, hy, hR⟩ := HY.out (backK zs k) ((m : Int), x) wr hJ (by rw [backK_len]; exact hlt)
      have hsn : backK zs k ++ [((m : Int), x)] = backK zs (k + 1) := by rw [← backK_snoc, hmi2, ← hm, ← hx]
      have HSN := Lib.hid hsn
      have hnx : (m : Int) - 1 = (zs.length : Int) - 1 - ((k + 1 : Nat) : Int) := by omega
      have HNX := Lib.hid hnx
      have hms : (m : Int) + 1 = (zs.length : Int) - (k : Int) := by omega
      rw [hmi]
      clear hsn hm hmi hmi2 hnx hx hcell hxu
      gi_wp2
      refine hR.mono ?_
      rintro e W3 (⟨rfl, hJ3, hk3⟩ | ⟨rfl, hJx3⟩)
      · obtain ⟨hc3, hn3⟩ := HK.out wr W3 hk3 ⟨hc, HN.out⟩
        have hJ4 : J (backK zs (k + 1)) W3 := by rw [← HSN.out]; exact hJ3
        clear hJ hJ3 hk3 hy hR hc HN q1
        gi_wp2
        go_roundw
        case rel => exact ⟨k + 1, by rw [← HNX.out], by omega, hJ4, hc3, Lib.hid hn3⟩
        case measure => first | (simp [intOf]; done) | (simp [intOf]; omega)
      · have hJx4 : Jx (backK zs (k + 1)) W3 := by rw [← HSN.out]; exact hJx3
        gi_wp2
        first | go_end0 | refine bodyPost_ret (results_none rfl _ _ _) rfl ?_
        exact ⟨⟨_, rfl⟩, .inr ⟨_, backK_pre zs zs.length (k + 1) (by omega), hJx4⟩⟩
    · obtain rfl : k = zs.length := by omega
      have T1 : decide (0 ≤ (zs.length : Int) - 1 - (zs.length : Int)) = false := by simp; omega
      gi_wp2
      first | go_end0 | refine bodyPost_ret (results_none rfl _ _ _) rfl ?_
      exact ⟨⟨_, rfl⟩, .inl ⟨_, rfl, hJ⟩⟩
/-! the value at a nimber -/
def hornL (x : Int) (ys : List (Int × Int)) : Int := ys.foldl (fun s p => xorI (mulI s x) (p.2 % 65536)) 0
theorem hornL_snoc (x : Int) (ys : List (Int × Int)) (y : Int × Int) : hornL x (ys ++ [y]) = xorI (mulI (hornL x ys) x) (y.2 % 65536) := by unfold hornL; rw [List.foldl_append]; rfl
def atP (zs : List Int) (x : Int) : Int := hornL x (backK zs zs.length)
theorem backK_in {zs : List Int} (h : inU zs) (k : Nat) : ∀ p ∈ backK zs k, 0 ≤ p.2 ∧ p.2 < 65536 := by
  intro p hp
  unfold backK at hp
  obtain ⟨j, _, rfl⟩ := List.mem_map.1 hp
  exact h.at _
theorem hornL_u {x : Int} (x1 : x < 65536) (ys : List (Int × Int)) : 0 ≤ hornL x ys ∧ hornL x ys < 65536 := by
  have main : ∀ (ys : List (Int × Int)) (s : Int), (0 ≤ s ∧ s < 65536) → 0 ≤ ys.foldl (fun s p => xorI (mulI s x) (p.2 % 65536)) s ∧ ys.foldl (fun s p => xorI (mulI s x) (p.2 % 65536)) s < 65536 := by
    intro ys
    induction ys with
    | nil => exact fun s hs => hs
    | cons y ys ih => exact fun s hs => ih _ (xorI_u _ _ (mulI_u s x hs.2 x1).2 (by omega))
  exact main ys 0 (by omega)
theorem cell_same {W W' : World} {b o : Nat} (h : W'.heap[b]? = W.heap[b]?) : W'.cell? ⟨b, o, none⟩ = W.cell? ⟨b, o, none⟩ := by
  unfold World.cell?
  rw [h]
/-- the body keeps what lies below h, and the box of the list -/
def KpB (h Bn : Nat) (W W' : World) : Prop := (∀ k, k < h → W'.heap[k]? = W.heap[k]?) ∧ W'.heap[Bn]? = W.heap[Bn]?
theorem KpB.trans {h Bn : Nat} {X Y Z : World} (a : KpB h Bn X Y) (b : KpB h Bn Y Z) : KpB h Bn X Z := ⟨fun k hk => (b.1 k hk).trans (a.1 k hk), b.2.trans a.2⟩
theorem KpB.put {h Bn : Nat} (hb : h ≤ Bn) (W : World) (l : Nat) (o : Obj) (hl : Bn < l) : KpB h Bn W (W.putObj l o) :=
  ⟨fun k hk => World.putObj_heap_other (by omega), World.putObj_heap_other (by omega)⟩
theorem KpB.of_below {h Bn : Nat} (hb : h ≤ Bn) {W W' : World} {B : Nat} (hB : Below B W W') (hl : Bn < B) : KpB h Bn W W' :=
  ⟨fun k hk => hB.block k (by omega), hB.block Bn hl⟩
theorem KpB.keeps {h Bn : Nat} {A : Option Addr} {c : Nat} {zs : List Int} (hA : 0 < zs.length → ∀ b off, A = some ⟨b, off, none⟩ → b < h) (W W' : World) (hk : KpB h Bn W W')
    (hf : W.cell? ⟨Bn, 0, none⟩ = some (.slice A zs.length c) ∧ NS W (.slice A zs.length c) zs) : W'.cell? ⟨Bn, 0, none⟩ = some (.slice A zs.length c) ∧ NS W' (.slice A zs.length c) zs := by
  refine ⟨(cell_same hk.2).trans hf.1, ?_⟩
  obtain ⟨A', c', e, hz, hc⟩ := hf.2
  cases e
  refine ⟨A, c, rfl, hz, fun hn => ?_⟩
  obtain ⟨b, off, rfl, hlt, hcell⟩ := hc hn
  have hb := hA hn b off rfl
  have e2 := hk.1 b hb
  refine ⟨b, off, rfl, ?_, fun i hi => (cell_same e2).trans (hcell i hi)⟩
  rcases Nat.lt_or_ge b W'.heap.size with q | q
  · exact q
  · rw [Array.getElem?_eq_none q, Array.getElem?_eq_getElem hlt] at e2
    cases e2
theorem backward_in (n : Nat) (A : Option Addr) (k c : Nat) (w : World) :
    CallsIn Fence.wide n Try.prog 140 #[.slice A k c] w fun e w' => e = .returned (.func (.func 151) #[] #[.pointer (some ⟨w.heap.size, 0, none⟩)]) ∧ w' = w.alloc (.cells #[.slice A k c] 25) := by
  refine callsIn_of_wp Try.func140 rfl trivial ?_ rfl
  simp only [Try.ntmps140, List.size_toArray, List.length_cons, List.length_nil, Nat.reduceAdd, Nat.reduceSub, Array.replicate_succ, Array.replicate_zero, List.push_toArray, List.append_toArray, List.nil_append, List.cons_append]
  gi_wp2
  go_ret
  exact ⟨rfl, rfl⟩
theorem boxed_own {β : Type} (B : Nat) (t : TypeId) (f : β → Value) : Own (fun s W => Boxed W B t (f s)) := by
  intro s W W' row h hg hr
  refine h.kept hg ?_
  intro e
  obtain ⟨o, ho, hc⟩ := hr B e.symm
  have : W.heap[B]? = some (.cells #[f s] t (0, 0)) := h
  rw [this] at ho
  cases ho
  simp [Obj.isCells] at hc
set_option maxRecDepth 100000 in
set_option maxHeartbeats 4000000 in
theorem at_any (v : Value) (zs : List Int) (x : Int) (hz : zs.length ≤ 1048576) (x0 : 0 ≤ x) (x1 : x < 65536) (w : World) (h : NS w v zs) :
    Calls Try.prog 107 #[v, .int .u16 x] w fun e w' => e = .returned (.int .u16 (atP zs x)) ∧ Below w.heap.size w w' := by
  have HN := Lib.hid h
  have HU := Lib.hid (inU_of h)
  obtain ⟨A, c, rfl, _, _⟩ := h
  refine (callsIn_wide (n := 9)).1 ?_
  refine callsIn_of_wp_marks Try.func107 rfl trivial ?_ rfl
  simp only [Try.ntmps107, List.size_toArray, List.length_cons, List.length_nil, Nat.reduceAdd, Nat.reduceSub, Array.replicate_succ, Array.replicate_zero, List.push_toArray, List.append_toArray, List.nil_append, List.cons_append]
  gi_wp2
  refine ⟨trivial, ?_⟩
  refine (backward_in _ _ _ _ _).mono ?_
  rintro e w' ⟨rfl, rfl⟩
  gi_wp2
  obtain ⟨hh, hhe⟩ : ∃ hh, hh = w.heap.size := ⟨_, rfl⟩
  obtain ⟨w0, hw0⟩ : ∃ w0, w0 = (((w.alloc (.cells #[.int .u16 x] 41)).alloc (.cells #[.int .u16 0] 41)).alloc (.cells #[.slice A zs.length c] 25)) := ⟨_, rfl⟩
  have hB0 : Below hh w w0 := by rw [hw0, hhe]; exact (((Below.refl _ w).alloc (Nat.le_refl _) _).alloc (by simp <;> omega) _).alloc (by simp <;> omega) _
  have hsz0 : w0.heap.size = hh + 3 := by rw [hw0, hhe]; simp
  have bX : Boxed w0 hh 41 (.int .u16 x) := by rw [hw0, hhe]; exact ((Boxed.new w _ _).alloc _).alloc _
  have bV : Boxed w0 (hh + 1) 41 (.int .u16 0) := by
    rw [hw0, hhe]
    have := (Boxed.new (w.alloc (.cells #[.int .u16 x] 41)) 41 (.int .u16 0)).alloc (.cells #[.slice A zs.length c] 25)
    rwa [World.size_alloc] at this
  have bS : Boxed w0 (hh + 2) 25 (.slice A zs.length c) := by
    rw [hw0, hhe]
    have := Boxed.new ((w.alloc (.cells #[.int .u16 x] 41)).alloc (.cells #[.int .u16 0] 41)) 25 (.slice A zs.length c)
    rwa [World.size_alloc, World.size_alloc] at this
  have hN0 : NS w0 (.slice A zs.length c) zs := HN.out.below (by rw [← hhe]; exact hB0)
  have hA : 0 < zs.length → ∀ b off, A = some ⟨b, off, none⟩ → b < hh := by
    intro h1 b off e
    obtain ⟨b', off', e', hlt, _⟩ := HN.out.spot.2 h1
    rw [e] at e'
    cases e'
    rw [hhe]; exact hlt
  rw [← hw0, ← hhe]
  have HHE := Lib.hid hhe
  clear hw0 hhe
  refine wpIn_rangeFunc_ownG rfl (by omega) (gf := 151) (lb := #[.pointer (some ⟨hh + 2, 0, none⟩)]) rfl trivial (enters_of Try.func151 (by kernel_rfl) rfl)
    (Kp := KpB hh (hh + 2)) (encs := fun p : Int × Int => #[.int .i64 p.1, .int .u16 (p.2 % 65536)]) (S := fun ys => ys = backK zs zs.length) (Sp := fun pre => pre <+: backK zs zs.length) (N := zs.length) (w0 := w0)
    (fun l J Jx W hW _ _ hY h0 => back1_in _ l (hh + 2) (by omega) A c zs hz J Jx _ (KpB.keeps hA) hY W ((hW.cell (p := ⟨hh + 2, 0, none⟩) (by show hh + 2 < w0.heap.size; omega)).trans bS.cell) (hN0.below hW) h0)
    (fun h k => h.trans k) (fun W l o o' hl _ _ _ => KpB.put (by omega) W l o' (by omega)) (Below.refl _ _) (fun _ => rfl)
    (fun pre W => (Boxed W hh 41 (.int .u16 x) ∧ Boxed W (hh + 1) 41 (.int .u16 (hornL x pre))) ∧ (Below hh w W ∧ hh + 3 ≤ W.heap.size))
    (fun _ _ _ => False)
    (OwnFrom.and (OwnFrom.and (Own.from (boxed_own hh 41 (fun _ => .int .u16 x)) _) (Own.from (boxed_own (hh + 1) 41 (fun pre => .int .u16 (hornL x pre))) _)) (OwnFrom.and (ownFrom_below (Nat.le_of_eq HHE.out) (by omega)) (fun s A B row hs hg hr => Nat.le_trans hs hg.size)))
    (fun _ _ _ _ _ hs _ _ => hs)
    ⟨⟨bX, bV⟩, hB0, by omega⟩
    (fun p => { tmps := #[.slice A zs.length c, .int .u16 x, undef, .pointer (some ⟨hh, 0, none⟩), .int .u16 0, .pointer (some ⟨hh + 1, 0, none⟩), undef, .int .u16 (p.2 % 65536), .slice A zs.length c, .func (.func 151) #[] #[.pointer (some ⟨hh + 2, 0, none⟩)], .int .i64 p.1, .int .u16 (p.2 % 65536), undef, undef, undef, undef, undef, undef], defers := [] }) ?assign ?body ?done ?stop
  case assign =>
    intro l p W K hK
    gi_wp2
    exact hK
  case body =>
    rintro l pre p W ⟨⟨hx, hv⟩, hB, hsz⟩ hlt
    have c1 := hx.cell
    have c2 := hv.cell
    have f2 := hv.frozen
    have r1 := hornL_u x1 pre
    obtain ⟨y, hy⟩ : ∃ y, y = p.2 % 65536 := ⟨_, rfl⟩
    have r2 : 0 ≤ y ∧ y < 65536 := by omega
    have hs := hornL_snoc x pre p
    obtain ⟨s, hse⟩ : ∃ s, s = hornL x pre := ⟨_, rfl⟩
    rw [← hse] at hs c2 r1
    rw [← hy] at hs ⊢
    have r3 := mulI_u s x r1.2 x1
    clear hy hse
    gi_wp2
    (try refine ⟨trivial, ?_⟩)
    refine (callsIn_wide.2 (times_v s x r1.1 r1.2 x0 x1 _)).mono ?_
    rintro e w' ⟨rfl, hw⟩
    obtain rfl := hw.symm
    obtain ⟨q, hq⟩ : ∃ q, q = mulI s x := ⟨_, rfl⟩
    rw [← hq] at r3 hs ⊢
    clear hq
    gi_wp2
    (try refine ⟨trivial, ?_⟩)
    refine (callsIn_wide.2 (plus_v q y r3.1 r3.2 r2.1 r2.2 _)).mono ?_
    rintro e w' ⟨rfl, hw⟩
    obtain rfl := hw.symm
    have HS := Lib.hid hs
    clear hs
    gi_wp2
    refine ⟨(KeepsOthers.setCell _ _ _).from _, ⟨fun k hk => ?_, ?_⟩, ⟨hx.kept (grownBy_setCell' _ _ _) (by intro e; have := Option.some.inj e; omega), by rw [HS.out]; exact hv.set _⟩, hB.setCell (p := ⟨hh + 1, 0, none⟩) (by show hh ≤ hh + 1; omega) _, by simpa [World.setCell] using hsz⟩
    · exact Below.heap_setCell _ _ _ _ (by simp; omega)
    · exact Below.heap_setCell _ _ _ _ (by simp)
  case done =>
    rintro D ys W hD rfl ⟨⟨hx, hv⟩, hB, hsz⟩ hK
    have hc := hv.cell
    gi_wp2
    refine ⟨by simp, .inl ⟨_, _, rfl, run_takeDeferred hK, ?_⟩⟩
    exact ⟨_, results_tmp rfl _ _ _, rfl, by rw [← HHE.out]; exact hB.trans (belowK_b (w := w0) (by omega) W D _ _ hD hK rfl rfl)⟩
  case stop =>
    rintro D c pre W _ _ h _
    exact h.elim
end Go.Proofs.Ytnpadkkjaeblfaa
