/-
  Polynomials from roots: of the program (a range over any iterator) and of the model; FromRoots.
-/
import Derived.Stop.RegionWithIn
import Derived.RangeFuncCalls
import Derived.Test.YtnpadkkjaeblfaaPvB
namespace Go.Proofs.Ytnpadkkjaeblfaa
set_option linter.unusedVariables false
set_option linter.unusedSimpArgs false
open Go.ChangeShapes Go.WideShapes Go.ChangeAt Go.RowKit Go.Shelf
attribute [local go_sem] Oper.semAt_some

/-- the product of x plus the nimbers of a list -/
def rootsL (zs : List Int) : List Int := zs.foldl (fun a z => pTimes a [z % 65536, 1]) [1]
theorem rootsL_snoc (zs : List Int) (z : Int) : rootsL (zs ++ [z]) = pTimes (rootsL zs) [z % 65536, 1] := by unfold rootsL; rw [List.foldl_append]; rfl
theorem two_in (z : Int) : inU [z % 65536, 1] := by
  intro y hy
  rcases List.mem_cons.1 hy with rfl | hy
  · omega
  · rcases List.mem_singleton.1 hy with rfl
    omega
theorem rootsL_in (zs : List Int) : inU (rootsL zs) := by
  have main : ∀ (zs : List Int) (a : List Int), inU a → inU (zs.foldl (fun a z => pTimes a [z % 65536, 1]) a) := by
    intro zs
    induction zs with
    | nil => exact fun a h => h
    | cons z zs ih => exact fun a h => ih _ (pTimes_in h (two_in z))
  exact main zs [1] (fun y hy => by rcases List.mem_singleton.1 hy with rfl; omega)
theorem rootsL_len (zs : List Int) : (rootsL zs).length ≤ zs.length + 1 := by
  have main : ∀ (zs : List Int) (a : List Int), (zs.foldl (fun a z => pTimes a [z % 65536, 1]) a).length ≤ a.length + zs.length := by
    intro zs
    induction zs with
    | nil => exact fun a => Nat.le_refl _
    | cons z zs ih =>
      intro a
      have h1 := ih (pTimes a [z % 65536, 1])
      have h2 := pTimes_len a [z % 65536, 1]
      have h3 : ([z % 65536, 1] : List Int).length = 2 := rfl
      rw [h3] at h2
      simp only [List.foldl_cons, List.length_cons]
      by_cases h0 : a.length = 0
      · have e : pTimes a [z % 65536, 1] = [] := pTimes_zero (Or.inl h0)
        rw [e] at h1 ⊢
        simp at h1
        omega
      · omega
  have := main zs [1]
  have e : ([1] : List Int).length = 1 := rfl
  unfold rootsL
  omega
theorem mod_u {x : Int} (h : 0 ≤ x ∧ x < 65536) : x % 65536 = x := by omega
/-- the body keeps what lies below h -/
def KpL (h : Nat) (W W' : World) : Prop := ∀ k, k < h → W'.heap[k]? = W.heap[k]?
theorem KpL.keeps {h : Nat} {v : Value} {zs : List Int} {w W W' : World} (hw : w.heap.size = h) (hN : NS w v zs) (hb : Below h w W) (hk : KpL h W W') : Below h w W → NS W' v zs := by
  intro _
  obtain ⟨A, c, rfl, hz, hc⟩ := hN
  refine ⟨A, c, rfl, hz, fun hn => ?_⟩
  obtain ⟨b, off, rfl, hlt, hcell⟩ := hc hn
  have hb2 : b < h := by omega
  have e2 : W'.heap[b]? = w.heap[b]? := (hk b hb2).trans (hb.block b hb2)
  refine ⟨b, off, rfl, ?_, fun i hi => (cell_same e2).trans (hcell i hi)⟩
  rcases Nat.lt_or_ge b W'.heap.size with q | q
  · exact q
  · rw [Array.getElem?_eq_none q, Array.getElem?_eq_getElem hlt] at e2
    cases e2
set_option maxRecDepth 100000 in
set_option maxHeartbeats 2000000 in
theorem values1_in (n l Bn : Nat) (hn : 1 ≤ n) (A : Option Addr) (c : Nat) (zs : List Int) (hz : zs.length ≤ 1048576) (J Jx : List Int → World → Prop) (Kp : World → World → Prop)
    (hKp : ∀ W W', Kp W W' → (W.cell? ⟨Bn, 0, none⟩ = some (.slice A zs.length c) ∧ NS W (.slice A zs.length c) zs) → (W'.cell? ⟨Bn, 0, none⟩ = some (.slice A zs.length c) ∧ NS W' (.slice A zs.length c) zs))
    (hY : ∀ pre x W, J pre W → pre.length < zs.length → YieldAt Fence.wide (n - 1) Try.prog l #[.int .u16 (x % 65536)] W fun e W' =>
      (e = .returned (.bool true) ∧ J (pre ++ [x]) W' ∧ Kp W W') ∨ (e = .returned (.bool false) ∧ Jx (pre ++ [x]) W'))
    (W : World) (hBn : W.cell? ⟨Bn, 0, none⟩ = some (.slice A zs.length c)) (hNS : NS W (.slice A zs.length c) zs) (h0 : J [] W) :
    CallsIn Fence.wide n Try.prog 141 #[.func (.yield l) #[] #[], .pointer (some ⟨Bn, 0, none⟩)] W fun e W' => (∃ v, e = .returned v) ∧
      ((∃ ys, ys = zs ∧ J ys W') ∨ (∃ pre, pre <+: zs ∧ Jx pre W')) := by
  have HK := Lib.hid hKp
  have HY := Lib.hid hY
  have HU := Lib.hid (inU_of hNS)
  clear hKp hY
  refine callsIn_of_wp Try.func141 rfl trivial ?_ rfl
  simp only [Try.ntmps141, List.size_toArray, List.length_cons, List.length_nil, Nat.reduceAdd, Nat.reduceSub, Array.replicate_succ, Array.replicate_zero, List.push_toArray, List.append_toArray, List.nil_append, List.cons_append]
  gi_wp2
  gi_loopw [7] (fun y wr => ∃ k : Nat, y = .int .i64 (k : Int) ∧ k ≤ zs.length ∧ J (zs.take k) wr ∧ wr.cell? ⟨Bn, 0, none⟩ = some (.slice A zs.length c) ∧ Hid (NS wr (.slice A zs.length c) zs))
    (fun y wr => zs.length - (intOf y).toNat)
  case atStart => exact ⟨0, rfl, Nat.zero_le _, by simpa using h0, hBn, Lib.hid hNS⟩
  case round =>
    clear h0 hBn hNS
    obtain ⟨k, rfl, hk, hJ, hc, HN⟩ := hrel
    by_cases hlt : k < zs.length
    · obtain ⟨b, off, rfl, hlb, hcell⟩ := HN.out.spot.2 (by omega)
      have q1 := hcell k (by omega)
      have i1 : (k : Int) < (zs.length : Int) := by omega
      have hxu := mod_u (HU.out.at k)
      obtain ⟨x, hx⟩ : ∃ x, x = zs.getD k 0 := ⟨_, rfl⟩
      rw [← hx] at q1 hxu
      rw [← hxu] at q1
      obtain ⟨fn, tmps, assign, body, hy, hR⟩ := HY.out (zs.take k) x wr hJ (by rw [List.length_take]; omega)
      have hsn : zs.take k ++ [x] = zs.take (k + 1) := by
        rw [List.take_succ_eq_append_getElem hlt, hx]
        simp [List.getD, hlt]
      have HSN := Lib.hid hsn
      clear hsn hx hcell hxu
      gi_wp2
      refine hR.mono ?_
      rintro e W3 (⟨rfl, hJ3, hk3⟩ | ⟨rfl, hJx3⟩)
      · obtain ⟨hc3, hn3⟩ := HK.out wr W3 hk3 ⟨hc, HN.out⟩
        have hJ4 : J (zs.take (k + 1)) W3 := by rw [← HSN.out]; exact hJ3
        clear hJ hJ3 hk3 hy hR hc HN q1
        gi_wp2
        go_roundw
        case rel => exact ⟨k + 1, by go_num, by omega, hJ4, hc3, Lib.hid hn3⟩
        case measure => first | (simp [intOf]; done) | (simp [intOf]; omega)
      · have hJx4 : Jx (zs.take (k + 1)) W3 := by rw [← HSN.out]; exact hJx3
        gi_wp2
        first | go_end0 | refine bodyPost_ret (results_none rfl _ _ _) rfl ?_
        exact ⟨⟨_, rfl⟩, .inr ⟨_, List.take_prefix _ _, hJx4⟩⟩
    · obtain rfl : k = zs.length := by omega
      have hJ2 : J zs wr := by simpa using hJ
      gi_wp2
      first | go_end0 | refine bodyPost_ret (results_none rfl _ _ _) rfl ?_
      exact ⟨⟨_, rfl⟩, .inl ⟨_, rfl, hJ2⟩⟩
theorem rootPoly_any (a : Int) (w : World) :
    Calls Try.prog 120 #[.int .u16 a] w fun e w' => e = .returned (.slice (some ⟨w.heap.size, 0, none⟩) 2 2) ∧ w' = w.alloc (.cells #[.int .u16 a, .int .u16 1] 41) := by
  go_enter Try.func120, Try.ntmps120
  go_wp2_with fail
  go_ret
  exact ⟨rfl, rfl⟩
theorem keeps_of_below {B : Nat} {W W' : World} (hb : Below W.heap.size W W') : KeepsFrom B W W' :=
  ⟨hb.size, fun k o _ hk _ => (hb.block k (Array.getElem?_eq_some_iff.1 hk).1).trans hk⟩
set_option maxRecDepth 100000 in
set_option maxHeartbeats 4000000 in
theorem polyOfRoots_any (gf : Nat) (lb : Array Value) (hg : ∀ args w, (callFunc gf args).run Try.prog w = .ok (.enter gf args) w) (zs : List Int) (hz : zs.length ≤ 1000) (w : World)
    (hstop : SeqStopsK Fence.wide 8 Try.prog gf lb (fun x : Int => #[Value.int .u16 (x % 65536)]) (KpL w.heap.size) (fun ys => ys = zs) (fun pre => pre <+: zs) zs.length w) :
    Calls Try.prog 115 #[.func (.func gf) #[] lb] w fun e w' => ∃ r, e = .returned r ∧ w'.ownsRow w.heap.size 41 1 r (rootsL zs).length (u16s (rootsL zs)) ∧ Below w.heap.size w w' := by
  have HST := Lib.hid hstop
  clear hstop
  refine (callsIn_wide (n := 9)).1 ?_
  refine callsIn_of_wp_marks Try.func115 rfl trivial ?_ rfl
  simp only [Try.ntmps115, List.size_toArray, List.length_cons, List.length_nil, Nat.reduceAdd, Nat.reduceSub, Array.replicate_succ, Array.replicate_zero, List.push_toArray, List.append_toArray, List.nil_append, List.cons_append]
  gi_wp2
  obtain ⟨hh, hhe⟩ : ∃ hh, hh = w.heap.size := ⟨_, rfl⟩
  obtain ⟨w0, hw0⟩ : ∃ w0, w0 = ((w.alloc (.cells #[.int .u16 1] 41)).alloc (.cells #[.slice (some ⟨w.heap.size, 0, none⟩) 1 1] 25)) := ⟨_, rfl⟩
  have hB0 : Below hh w w0 := by rw [hw0, hhe]; exact ((Below.refl _ w).alloc (Nat.le_refl _) _).alloc (by simp) _
  have hsz0 : w0.heap.size = hh + 2 := by rw [hw0, hhe]; simp
  have bV : Boxed w0 (hh + 1) 25 (.slice (some ⟨hh, 0, none⟩) 1 1) := by
    rw [hw0, hhe]
    have := Boxed.new (w.alloc (.cells #[.int .u16 1] 41)) 25 (.slice (some ⟨w.heap.size, 0, none⟩) 1 1)
    rwa [World.size_alloc] at this
  have hO0 : w0.ownsRow hh 41 1 (.slice (some ⟨hh, 0, none⟩) 1 1) (rootsL []).length (u16s (rootsL [])) := by
    have : RW w0 hh [1] := by
      rw [hw0, hhe]
      exact RW.below (B := w.heap.size + 1) (heap_alloc_new w _ : RW (w.alloc (.cells #[.int .u16 1] 41)) w.heap.size [1]) ((Below.refl _ _).alloc (by simp) _) (by omega)
    exact this.own (Nat.le_refl _) (by unfold maxLen; simp)
  rw [← hw0, ← hhe]
  have HHE := Lib.hid hhe
  rw [← hhe] at HST
  have HW : Below w.heap.size w w0 := by rw [← hhe]; exact hB0
  clear hw0 hhe
  refine wpIn_rangeFunc_ownG rfl (by omega) (gf := gf) (lb := lb) rfl trivial hg
    (Kp := KpL hh) (w0 := w) HST.out
    (fun h k x hx => (k x hx).trans (h x hx)) (fun W l o o' hl _ _ _ => fun k hk => World.putObj_heap_other (by omega)) HW (fun _ => rfl)
    (fun pre W => (∃ v, Boxed W (hh + 1) 25 v ∧ W.ownsRow hh 41 1 v (rootsL pre).length (u16s (rootsL pre)) ∧ True) ∧ (Below hh w W ∧ hh + 2 ≤ W.heap.size))
    (fun _ _ _ => False)
    (OwnFrom.and (Own.from (holdsRow_own hh (hh + 1) 25 41 1 (fun pre => (rootsL pre).length) (fun pre => u16s (rootsL pre)) (fun pre v => True)) _) (OwnFrom.and (ownFrom_below (Nat.le_of_eq HHE.out) (by omega)) (fun s A B row hs hg hr => Nat.le_trans hs hg.size)))
    (fun _ _ _ _ _ hs _ _ => hs)
    ⟨⟨_, bV, hO0, trivial⟩, hB0, by omega⟩
    (fun x => { tmps := #[.func (.func gf) #[] lb, undef, .slice none 0 0, .pointer (some ⟨hh + 1, 0, none⟩), .int .u16 (x % 65536), .slice (some ⟨hh, 0, none⟩) 1 1, .func (.func gf) #[] lb, .int .u16 (x % 65536), undef, undef, undef, undef, undef], defers := [] }) ?assign ?body ?done ?stop
  case assign =>
    intro l p W K hK
    gi_wp2
    exact hK
  case body =>
    rintro l pre p W ⟨⟨v, hv, hrow, _⟩, hB, hsz⟩ hlt
    have hlen := rootsL_len pre
    have hin := rootsL_in pre
    obtain ⟨y, hy⟩ : ∃ y, y = p % 65536 := ⟨_, rfl⟩
    have hs := rootsL_snoc pre p
    rw [← hy] at hs ⊢
    have hin2 : inU [y, 1] := by rw [hy]; exact two_in p
    obtain ⟨A1, c1, rfl, _, _⟩ := own_form hrow
    obtain ⟨Wa, hWa⟩ : ∃ Wa, Wa = W.drew.alloc (.cells #[.int .u16 y, .int .u16 1] 41) := ⟨_, rfl⟩
    have hsa : Wa.heap.size = W.heap.size + 1 := by rw [hWa]; simp
    have hBa : Below W.heap.size W Wa := by rw [hWa]; exact (drew_b (Below.refl _ W)).alloc (by simp) _
    have hva : Boxed Wa (hh + 1) 25 (.slice A1 (rootsL pre).length c1) := (hBa.block (hh + 1) (by omega)).trans hv
    have hra := own_below hrow hBa
    have hna : NS Wa (.slice A1 (rootsL pre).length c1) (rootsL pre) := (PO.of_own hra rfl hin).ns
    have hnb : NS Wa (.slice (some ⟨W.heap.size, 0, none⟩) 2 2) [y, 1] := by
      have : RW Wa W.heap.size [y, 1] := by rw [hWa]; exact heap_alloc_new W.drew _
      exact this.ns hin2 2
    have ht := ptimes_any _ _ (rootsL pre) [y, 1] (by omega) (by simp) Wa hna hnb
    rw [← hs] at ht
    obtain ⟨L2, hL2⟩ : ∃ L2, L2 = rootsL (pre ++ [p]) := ⟨_, rfl⟩
    rw [← hL2] at ht
    have HL2 := Lib.hid hL2
    have HT := Lib.hid ht
    have q1 : W.drew.cell? ⟨hh + 1, 0, none⟩ = some (.slice A1 (rootsL pre).length c1) := hv.cell
    have q2 : Wa.cell? ⟨hh + 1, 0, none⟩ = some (.slice A1 (rootsL pre).length c1) := hva.cell
    have hrp : ∀ u : World, u = W.drew → Calls Try.prog 120 #[.int .u16 y] u fun e u' => e = .returned (.slice (some ⟨W.heap.size, 0, none⟩) 2 2) ∧ u' = Wa := by
      intro u hu
      rw [hu, hWa]
      exact rootPoly_any y W.drew
    have HRP := Lib.hid (hrp _ rfl)
    have hva2 : Hid (Boxed Wa (hh + 1) 25 (.slice A1 (rootsL pre).length c1)) := Lib.hid hva
    have HSA := Lib.hid hsa
    have HBA := Lib.hid hBa
    clear hrp ht hs hy hWa hL2 hva hna hnb hra hrow hin hin2 hsa hBa
    gi_wp2
    gi_region_with (first | ((try refine ⟨trivial, ?_⟩); refine (CallsIn.inRound l (callsIn_wide.2 HRP.out)).mono ?_; rintro e w' ⟨rfl, rfl⟩) | ((try refine ⟨trivial, ?_⟩); refine (CallsIn.inRound l (callsIn_wide.2 HT.out)).mono ?_; rintro e w2 ⟨r2, rfl, ho2, hb2⟩; obtain ⟨A2, c2, rfl, _, _⟩ := own_form ho2; have q3 : Boxed w2 (hh + 1) 25 (.slice A1 (rootsL pre).length c1) := (hb2.block (hh + 1) (by have := HSA.out; omega)).trans hva2.out; have q4 := q3.cell; have q5 := q3.frozen; have HO2 := Lib.hid ho2; have HB2 := Lib.hid hb2; have HQ3 := Lib.hid q3; clear ho2 hb2 q3))
    all_goals
      gi_wp2
      have hb3 : Below W.heap.size W w2 := bchain HBA.out HB2.out
      have ho4 : w2.ownsRow hh 41 1 (.slice A2 L2.length c2) L2.length (u16s L2) := own_low HO2.out (by have := HSA.out; omega)
      refine ⟨(keeps_of_below hb3).trans ((KeepsOthers.setCell _ _ _).from _), fun k hk => (Below.heap_setCell _ _ _ _ (by simp; omega)).trans (hb3.block k (by omega)), ⟨_, HQ3.out.set _, ?_, trivial⟩, (hB.trans (hb3.mono (by omega))).setCell (p := ⟨hh + 1, 0, none⟩) (by show hh ≤ hh + 1; omega) _, by have := hb3.size; simp [World.setCell]; omega⟩
      rw [← HL2.out]
      refine ho4.kept (grownBy_setCell' w2 (hh + 1) _) (.inr ?_)
      exact (HQ3.out.not_row (by decide) ho4).symm
  case done =>
    rintro D ys W hD rfl ⟨⟨v, hv, hrow, _⟩, hB, _⟩ hK
    have hc := hv.cell
    gi_wp2
    refine ⟨by simp, .inl ⟨_, _, rfl, run_takeDeferred hK, ?_⟩⟩
    exact ⟨_, results_tmp rfl _ _ _, v, rfl, own_low (ownsRow_putObj hrow _ hK rfl) (Nat.le_of_eq HHE.out.symm), by rw [← HHE.out]; exact hB.trans (belowK_b (w := w0) (by omega) W D _ _ hD hK rfl rfl)⟩
  case stop =>
    rintro D c pre W _ _ h _
    exact h.elim
end Go.Proofs.Ytnpadkkjaeblfaa
