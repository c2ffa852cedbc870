/-
  Games that come in, are counted, copied and compared: the laws' own helpers szGame, toGame, eqGame.
-/
import Derived.Test.YtklddmmbbaaliaaDoorList8
import Derived.Deep.Matrix
import Derived.WideKeyArgs
namespace Go.Proofs.YtklddmmbbaaliaaDoor
set_option linter.unusedVariables false
set_option linter.unusedSimpArgs false
open Go.ChangeShapes Go.WideShapes Go.ChangeAt Go.RowKit Go.Deep

/-- the value v is a slice of slices, from block B on -/
def GS (B : Nat) (w : World) (v : Value) (gs : List (List Int)) : Prop :=
  ∃ A c, v = .slice A gs.length c ∧ gs.length ≤ 9223372036854775807 ∧ (∀ i, i < gs.length → (gs.getD i []).length ≤ 9223372036854775807) ∧
    (0 < gs.length → ∃ b off, A = some ⟨b, off, none⟩ ∧ B ≤ b ∧ b < w.heap.size ∧ ∀ i, i < gs.length → ∃ u, w.cell? ⟨b, off + i, none⟩ = some u ∧ R8 B w u (gs.getD i []))
theorem GS.below {B : Nat} {w w' : World} {v : Value} {gs : List (List Int)} (h : GS B w v gs) (hb : Below w.heap.size w w') : GS B w' v gs := by
  obtain ⟨A, c, hv, hm, hm2, hc⟩ := h
  refine ⟨A, c, hv, hm, hm2, fun hn => ?_⟩
  obtain ⟨b, off, hA, hB, hlt, hcell⟩ := hc hn
  refine ⟨b, off, hA, hB, Nat.lt_of_lt_of_le hlt hb.size, fun i hi => ?_⟩
  obtain ⟨u, h1, h2⟩ := hcell i hi
  exact ⟨u, (hb.cell (p := ⟨b, off + i, none⟩) hlt).trans h1, h2.below hb⟩
theorem GS.low {B B' : Nat} {w : World} {v : Value} {gs : List (List Int)} (h : GS B w v gs) (hB : B' ≤ B) : GS B' w v gs := by
  obtain ⟨A, c, hv, hm, hm2, hc⟩ := h
  refine ⟨A, c, hv, hm, hm2, fun hn => ?_⟩
  obtain ⟨b, off, hA, h1, hlt, hcell⟩ := hc hn
  refine ⟨b, off, hA, Nat.le_trans hB h1, hlt, fun i hi => ?_⟩
  obtain ⟨u, h3, h4⟩ := hcell i hi
  exact ⟨u, h3, h4.low hB⟩
theorem rangeMap_getD (f : Nat → List Int) (n i : Nat) (hi : i < n) : ((List.range n).map f).getD i [] = f i := by
  simp [List.getD_eq_getElem?_getD, List.getElem?_map, List.getElem?_range hi]
theorem open_game {H : Type} {enc : TypeId × Value → H} {P : Program} {W : World} {base : Nat} {t e q : TypeId} {v : Value} {d : DataW H} {p : List MemPlace}
    (hl : laidOutB P = true) (hr : P.readableRec t = true) (hrow : t < P.types.size)
    (ht : P.underlying t = some (.slice e)) (he : P.underlying e = some (.slice q)) (hq : P.underlying q = some (.int .i8)) (ce : P.cellsOf e = 1) (cq : P.cellsOf q = 1) (hv : Value.okWide P W .any base t v)
    (h : DataW.Trod enc P W 0 (fun _ => true) true t v d p) (hlt : ∀ x ∈ p, x.block < W.heap.size) :
    ∃ gs, GS 0 W v gs ∧ ∀ W' : World, Below W.heap.size W W' → ∀ sp : Nat → Bool, (∀ q ∈ p, sp q.block = true) → DataW.Trod enc P W' 0 sp true t v d p := by
  have hs : ∀ W' : World, Below W.heap.size W W' → ∀ sp : Nat → Bool, (∀ q ∈ p, sp q.block = true) → DataW.Trod enc P W' 0 sp true t v d p := fun W' hb sp hsp =>
    WideElems.Trod_stays hl hr hrow h (fun x hx => hb.same (hlt x hx)) hsp
  obtain ⟨a0, len, cap, rfl⟩ := okWide_slice ht hv
  obtain ⟨fuel, hf⟩ := h
  rcases open_int_rows ht he hq ce cq hf with ⟨hcs, hx⟩ | ⟨a, len', cap', A, Ln, C, Z, hcs, _, hle, hm, hx, hrows⟩
  · simp [Value.cells] at hcs
    obtain ⟨rfl, rfl, rfl⟩ := hcs
    exact ⟨[], ⟨none, 0, rfl, by simp, by simp, by simp⟩, hs⟩
  · simp [Value.cells] at hcs
    obtain ⟨rfl, rfl, rfl⟩ := hcs
    have lg : ((List.range len).map fun r => (Z r).take (Ln r)).length = len := by simp
    refine ⟨(List.range len).map fun r => (Z r).take (Ln r), ⟨some a, cap, by rw [lg], by rw [lg]; unfold maxLen at hm; omega, fun i hi => ?_, fun hn => ?_⟩, hs⟩
    · rw [lg] at hi
      rw [rangeMap_getD _ _ _ hi]
      obtain ⟨_, k1, k2, k3, _⟩ := hrows i (by omega)
      rw [List.length_take]; unfold maxLen at k2; omega
    · rw [lg] at hn
      obtain ⟨b, off, spot⟩ := a
      have hspot : spot = none := by simpa [Addr.add] using World.cell?_spot (hrows 0 (by omega)).1
      subst hspot
      refine ⟨b, off, rfl, Nat.zero_le _, block_of_cell (hrows 0 (by omega)).1, fun i hi => ?_⟩
      rw [lg] at hi
      rw [rangeMap_getD _ _ _ hi]
      obtain ⟨k0, k1, k2, k3, k4, k5, k6⟩ := hrows i (by omega)
      rw [add_plain] at k0
      refine ⟨_, k0, A i, C i, ?_, fun z hz => ?_, fun hn2 => ?_⟩
      · rw [List.length_take, Nat.min_eq_left (by omega)]
      · have := bounds_i8 (k4 z (List.mem_of_mem_take hz))
        omega
      · rw [List.length_take] at hn2
        cases hA : A i with
        | none => have := k5 hA; omega
        | some a' =>
          obtain ⟨b', off', spot'⟩ := a'
          have kk := (k6 _ hA).2
          have hspot' : spot' = none := by simpa [Addr.add] using World.cell?_spot (kk 0 (by omega))
          subst hspot'
          refine ⟨b', off', rfl, Nat.zero_le _, block_of_cell (kk 0 (by omega)), fun c hc => ?_⟩
          rw [List.length_take] at hc
          have := kk c (by omega)
          rw [add_plain] at this
          rw [this]
          simp [List.getD, List.getElem?_take, show c < Ln i from by omega]
/-- the length, and the lengths of the first i rows -/
def lensTo (gs : List (List Int)) : Nat → Nat
  | 0 => gs.length
  | i + 1 => lensTo gs i + (gs.getD i []).length
def total (gs : List (List Int)) : Nat := lensTo gs gs.length
theorem lens_mono (gs : List (List Int)) (i : Nat) : ∀ j, lensTo gs i ≤ lensTo gs (i + j)
  | 0 => Nat.le_refl _
  | j + 1 => Nat.le_trans (lens_mono gs i j) (by rw [← Nat.add_assoc]; exact Nat.le_add_right _ _)
theorem lens_le {gs : List (List Int)} {i j : Nat} (h : i ≤ j) : lensTo gs i ≤ lensTo gs j := by
  have := lens_mono gs i (j - i)
  rwa [Nat.add_sub_cancel' h] at this
theorem total_len (gs : List (List Int)) : gs.length ≤ total gs := lens_le (gs := gs) (Nat.zero_le gs.length)
theorem total_row (gs : List (List Int)) (i : Nat) (hi : i < gs.length) : (gs.getD i []).length ≤ total gs := by
  have h1 : lensTo gs (i + 1) ≤ total gs := lens_le (gs := gs) (by omega)
  have h2 : lensTo gs (i + 1) = lensTo gs i + (gs.getD i []).length := rfl
  omega
def szV (gs : List (List Int)) (l : Nat) : Value := if total gs ≤ l then .int .i64 ((l - total gs : Nat) : Int) else .int .i64 (-1)
theorem szInt8S_any (v : Value) (zs : List Int) (hz : zs.length ≤ 9223372036854775807) (l : Nat) (hl : l ≤ 1048576) (B : Nat) (w : World) (h : R8 B w v zs) :
    Calls Tryd.prog 105 #[v, .int .i64 (l : Int)] w fun e w' => e = .returned (if zs.length ≤ l then .int .i64 ((l - zs.length : Nat) : Int) else .int .i64 (-1)) ∧ w' = w := by
  obtain ⟨A, c, rfl, _, hc⟩ := h
  have HC := Lib.hid hc; clear hc
  by_cases hlt : zs.length ≤ l
  · rw [if_pos hlt]
    obtain ⟨y, hy⟩ : ∃ y : Nat, y = l - zs.length := ⟨_, rfl⟩
    have e1 : (l : Int) - (zs.length : Int) = (y : Int) := by omega
    rw [← hy]
    clear hy
    have t1 : decide ((y : Int) < 0) = false := by simp
    go_enter Tryd.func105, Tryd.ntmps105
    go_wp2_with fail
    go_ret
    exact ⟨rfl, rfl⟩
  · rw [if_neg hlt]
    have t1 : decide ((l : Int) - (zs.length : Int) < 0) = true := by simp; omega
    go_enter Tryd.func105, Tryd.ntmps105
    go_wp2_with fail
    go_ret
    exact ⟨rfl, rfl⟩
set_option maxHeartbeats 1000000 in
theorem szGame_any (v : Value) (gs : List (List Int)) (l : Nat) (hl : l ≤ 1048576) (w : World) (h : GS 0 w v gs) :
    Calls Tryd.prog 57 #[v, .int .i64 (l : Int)] w fun e w' => e = .returned (szV gs l) ∧ w' = w := by
  obtain ⟨A, c, rfl, hm, hm2, hc⟩ := h
  have HC := Lib.hid hc; clear hc
  have HM := Lib.hid hm2; clear hm2
  have HT := Lib.hid (total_len gs)
  by_cases h0 : gs.length ≤ l
  · obtain ⟨y, hy⟩ : ∃ y : Nat, y = l - gs.length := ⟨_, rfl⟩
    have e1 : (l : Int) - (gs.length : Int) = (y : Int) := by omega
    have hy2 : y ≤ 1048576 := by omega
    have HY := Lib.hid hy
    have H0 := Lib.hid h0
    clear hy h0
    have t1 : decide ((y : Int) < 0) = false := by simp
    go_enter Tryd.func57, Tryd.ntmps57
    go_wp2_with fail
    go_loopw [5, 1] (fun i r wr => ∃ k x : Nat, i = .int .i64 k ∧ k ≤ gs.length ∧ r = .int .i64 x ∧ x ≤ 1048576 ∧ Hid (lensTo gs k + x = l) ∧ wr = w) (fun i _ _ => gs.length - (intOf i).toNat)
    case atStart => exact ⟨0, y, rfl, Nat.zero_le _, rfl, hy2, Lib.hid (by have := HY.out; have := H0.out; show gs.length + y = l; omega), rfl⟩
    case round =>
      clear t1 e1
      obtain ⟨k, x, rfl, hk, rfl, hx, HX, rfl⟩ := hrel
      by_cases hlt : k < gs.length
      · obtain ⟨b, off, rfl, _, hlb, hcell⟩ := HC.out (by omega)
        obtain ⟨u, h1, h2⟩ := hcell k hlt
        have hlt' : (k : Int) < (gs.length : Int) := by omega
        have HR := Lib.hid h2
        have HCL := Lib.hid hcell
        clear hcell h2
        have hr1 : lensTo gs (k + 1) = lensTo gs k + (gs.getD k []).length := rfl
        have hr2 := Lib.hid hr1
        clear hr1
        go_wp2_with fail
        refine (szInt8S_any u (gs.getD k []) (HM.out k hlt) x hx 0 _ HR.out).mono ?_
        rintro e w' ⟨rfl, rfl⟩
        by_cases h3 : (gs.getD k []).length ≤ x
        · rw [if_pos h3]
          obtain ⟨z, hz⟩ : ∃ z : Nat, z = x - (gs.getD k []).length := ⟨_, rfl⟩
          have hz2 : z ≤ 1048576 := by omega
          have HZ := Lib.hid hz
          rw [← hz]
          have H3 := Lib.hid h3
          clear hz h3
          have t1 : decide ((z : Int) < 0) = false := by simp
          go_wp2_with fail
          exact ⟨⟨k + 1, z, by go_num, by omega, rfl, hz2, Lib.hid (by have := HX.out; have := HZ.out; have := H3.out; have := hr2.out; omega), by simp⟩, by simp [intOf]; omega⟩
        · rw [if_neg h3]
          have H3 := Lib.hid h3
          clear h3
          go_wp2_with fail
          go_ret
          refine ⟨?_, rfl⟩
          have : ¬ total gs ≤ l := by
            have q1 : lensTo gs (k + 1) ≤ total gs := lens_le (gs := gs) (by omega)
            have := HX.out; have := H3.out; have := hr2.out
            omega
          unfold szV
          rw [if_neg this]; rfl
      · have hke : k = gs.length := by omega
        have hlt' : decide ((k : Int) < (gs.length : Int)) = false := by simp; omega
        go_wp2_with fail
        go_ret
        refine ⟨?_, rfl⟩
        have q : lensTo gs k + x = l := HX.out
        rw [hke] at q
        have q' : total gs + x = l := q
        unfold szV
        rw [if_pos (by omega), show l - total gs = x from by omega]; rfl
  · have t1 : decide ((l : Int) - (gs.length : Int) < 0) = true := by simp; omega
    have hV : szV gs l = .int .i64 (-1) := by
      unfold szV
      have := HT.out
      rw [if_neg (by omega)]
    rw [hV]
    clear hV
    go_enter Tryd.func57, Tryd.ntmps57
    go_wp2_with fail
    go_ret
    exact ⟨rfl, rfl⟩
theorem infoRow8 : (Tryd.prog.info? 124).map (fun i => (i.zero, i.size, i.bytes)) = some (some (.slice none 0 0), 1, 24) := by kernel_rfl
/-- the rows of a game that is being copied -/
def halfRows (B : Nat) (w : World) (vs : List Value) (gs : List (List Int)) (k : Nat) : Prop := vs.length = gs.length ∧ ∀ j, j < k → ∃ u, vs[j]? = some u ∧ R8 B w u (gs.getD j [])
theorem halfRows.below {B k : Nat} {w w' : World} {vs : List Value} {gs : List (List Int)} (h : halfRows B w vs gs k) (hb : Below w.heap.size w w') : halfRows B w' vs gs k :=
  ⟨h.1, fun j hj => by obtain ⟨u, h1, h2⟩ := h.2 j hj; exact ⟨u, h1, h2.below hb⟩⟩
theorem halfRows.put {B k : Nat} {w : World} {vs : List Value} {gs : List (List Int)} (h : halfRows B w vs gs k) (hk : k < gs.length) (p : Addr) (hp : p.block < B) (u : Value) (hu : R8 B w u (gs.getD k [])) : halfRows B (w.setCell p u) (vs.set k u) gs (k + 1) := by
  refine ⟨by rw [List.length_set]; exact h.1, fun j hj => ?_⟩
  by_cases e : j = k
  · subst e
    exact ⟨u, by rw [List.getElem?_set, if_pos rfl, if_pos (by rw [h.1]; exact hk)], hu.put p hp u⟩
  · obtain ⟨x, h1, h2⟩ := h.2 j (by omega)
    exact ⟨x, by rw [List.getElem?_set, if_neg (fun x => e x.symm)]; exact h1, h2.put p hp u⟩
set_option maxHeartbeats 1000000 in
theorem toGame_any (v : Value) (gs : List (List Int)) (hn : total gs ≤ 1048576) (w : World) (h : GS 0 w v gs) :
    Calls Tryd.prog 59 #[v] w fun e w' => ∃ u, e = .returned u ∧ Below w.heap.size w w' ∧ GS w.heap.size w' u gs := by
  obtain ⟨A, c, rfl, hm, hm2, hc⟩ := h
  obtain ⟨i0, hi, hz0, hz1, hz2⟩ := info_parts infoRow8
  have HC := Lib.hid hc; clear hc
  have HT := Lib.hid (fun i => total_row gs i)
  have HM2 := Lib.hid hm2; clear hm2
  have hlen : gs.length ≤ 1048576 := Nat.le_trans (total_len gs) hn
  go_enter Tryd.func59, Tryd.ntmps59
  go_wp2_with (at_make; refine wpList_make_full _ rfl _ _ 75 rfl w.heap.size 124 i0 (.slice none 0 0) 1 Tryd.underlying75 hi hz0 hz1 _ _ _ _ gs.length rfl rfl rfl rfl (by rw [hz2]; omega) (by unfold maxLen; omega) (Nat.le_refl _) ?_)
  intro w1 hown hgrow
  have hb1 : Below w.heap.size w w1 := (Below.refl _ w).grown hgrow (Nat.le_refl _) (fun k hk => by cases hk)
  obtain ⟨g, hg⟩ : ∃ g, g = w.heap.size := ⟨_, rfl⟩
  rw [← hg] at hown hb1 ⊢
  have hsz : g < w1.heap.size := (hown.lt g rfl).2
  have HG := Lib.hid hg; clear hg
  obtain ⟨vs0, hvs⟩ : ∃ vs0, vs0 = (madeCells #[Value.slice none 0 0] gs.length).toList := ⟨_, rfl⟩
  rw [← hvs] at hown
  have hlv : vs0.length = gs.length := by have := hown.1; omega
  have HOWN := Lib.hid hown
  have HB1 := Lib.hid hb1
  clear hown hgrow hvs hb1
  go_wp2_with fail
  go_loopw [4] (fun i wr => ∃ (k : Nat) (vs : List Value), i = .int .i64 k ∧ k ≤ gs.length ∧ g < wr.heap.size ∧ Hid (Below g w wr) ∧ Hid (wr.ownsRow g 124 1 (.slice (some ⟨g, 0, none⟩) gs.length gs.length) gs.length vs) ∧ Hid (halfRows (g + 1) wr vs gs k)) (fun i _ => gs.length - (intOf i).toNat)
  case atStart => exact ⟨0, vs0, rfl, Nat.zero_le _, hsz, HB1, HOWN, Lib.hid ⟨hlv, fun j hj => absurd hj (by omega)⟩⟩
  case round =>
    obtain ⟨k, vs, rfl, hk, hgs, HB, HO, HH⟩ := hrel
    clear HB1 HOWN hlv hsz
    by_cases hlt : k < gs.length
    · obtain ⟨b, off, rfl, _, hlb, hcell⟩ := HC.out (by omega)
      obtain ⟨u, h1, h2⟩ := hcell k hlt
      have h1 : wr.cell? ⟨b, off + k, none⟩ = some u := (HB.out.cell (p := ⟨b, off + k, none⟩) (by rw [HG.out]; exact hlb)).trans h1
      have hbw : Below w.heap.size w wr := by rw [← HG.out]; exact HB.out
      have h2 := Lib.hid (h2.below hbw)
      have hlt' : (k : Int) < (gs.length : Int) := by omega
      have HCL := Lib.hid hcell
      clear hcell hbw
      go_wp2_with fail
      refine (toInt8S_any u (gs.getD k []) (Nat.le_trans (HT.out k hlt) hn) _ h2.out).mono ?_
      rintro e w2 ⟨x, rfl, hb2, ho2⟩
      have hx : R8 (g + 1) w2 x (gs.getD k []) := (R8.of_own ho2 h2.out.all).low (by omega)
      obtain ⟨A2, c2, hx2, _⟩ := id hx
      obtain ⟨n2, hL⟩ : ∃ n2, n2 = (gs.getD k []).length := ⟨_, rfl⟩
      rw [← hL] at hx2
      subst hx2
      have HL2 := Lib.hid hL
      clear hL
      have ho3 := own_below HO.out hb2
      have hh3 := HH.out.below hb2
      have hb3 : Below g w w2 := HB.out.trans (hb2.mono (by omega))
      have hgs2 : g < w2.heap.size := Nat.lt_of_lt_of_le hgs hb2.size
      have hvk : vs.length = gs.length := HH.out.1
      have h4 : w2.cell? ⟨g, k, none⟩ = vs[k]? := ho3.cellAt k (by omega)
      have h5 : w2.frozen? ⟨g, k, none⟩ = false := ho3.frozenAt k
      have h6 := Lib.hid (ho3.stored k (.slice A2 n2 c2)).1
      have h7 := Lib.hid (hh3.put hlt ⟨g, k, none⟩ (by simp) _ hx)
      have h8 := Lib.hid (hb3.setCell (p := ⟨g, k, none⟩) (Nat.le_refl _) (.slice A2 n2 c2))
      have h9 : g < (w2.setCell ⟨g, k, none⟩ (.slice A2 n2 c2)).heap.size := by simpa [World.setCell] using hgs2
      obtain ⟨y, hy⟩ : ∃ y, vs[k]? = some y := ⟨_, List.getElem?_eq_getElem (by omega)⟩
      rw [hy] at h4
      have H9 := Lib.hid h9
      clear h1 HB HO HH hb2 ho2 ho3 hh3 hb3 hx hy h9 hgs2 hgs hvk
      go_wp2_with fail
      go_roundw
      case rel => exact ⟨k + 1, _, by go_num, by omega, H9.out, h8, h6, h7⟩
      case measure => simp [intOf]; omega
    · have hke : k = gs.length := by omega
      have hlt' : decide ((k : Int) < (gs.length : Int)) = false := by simp; omega
      go_wp2_with fail
      go_ret
      refine ⟨_, rfl, by rw [← HG.out]; exact HB.out, ?_⟩
      rw [← HG.out]
      refine ⟨some ⟨g, 0, none⟩, gs.length, rfl, by omega, HM2.out, fun hn2 => ⟨g, 0, rfl, Nat.le_refl _, hgs, fun i hi => ?_⟩⟩
      obtain ⟨u, h1, h2⟩ := HH.out.2 i (by omega)
      exact ⟨u, by rw [Nat.zero_add, HO.out.cellAt i (by omega)]; exact h1, h2.low (by omega)⟩
theorem quiet_at {P : Program} {f : FuncId} {args : Array Value} {w : World} {m n : Nat} {v : Value} (h : Calls P f args (w.drewN (m + n)) fun e w' => e = .returned v ∧ ∃ k, w' = (w.drewN (m + n)).drewN k) :
    Calls P f args (w.drewN (m + n)) fun e w'' => e = .returned v ∧ ∃ n, w'' = w.drewN (m + n) :=
  h.mono fun _ _ ⟨he, k, hk⟩ => ⟨he, n + k, by rw [hk, World.drewN_drewN, Nat.add_assoc]⟩
def geqB (xs ys : List (List Int)) : Bool := decide (xs = ys)
theorem geqB_refl (xs : List (List Int)) : geqB xs xs = true := by unfold geqB; simp
theorem geqB_len {xs ys : List (List Int)} (h : ¬ xs.length = ys.length) : geqB xs ys = false := by
  unfold geqB; simp; intro e; exact h (by rw [e])
theorem geqB_ne {xs ys : List (List Int)} (k : Nat) (h : ¬ xs.getD k [] = ys.getD k []) : geqB xs ys = false := by
  unfold geqB; simp; intro e; exact h (by rw [e])
theorem geqB_all {xs ys : List (List Int)} (hl : xs.length = ys.length) (h : ∀ j, j < xs.length → xs.getD j [] = ys.getD j []) : geqB xs ys = true := by
  unfold geqB; simp
  apply List.ext_getElem hl
  intro i h1 h2
  have := h i h1
  simpa [List.getD, h1, h2] using this
theorem gall_step {xs ys : List (List Int)} {k : Nat} (h : ∀ j, j < k → xs.getD j [] = ys.getD j []) (e : xs.getD k [] = ys.getD k []) : ∀ j, j < k + 1 → xs.getD j [] = ys.getD j [] := by
  intro j hj
  by_cases h1 : j < k
  · exact h j h1
  · rw [show j = k from by omega]; exact e
set_option maxHeartbeats 1000000 in
theorem eqGame_any (v u : Value) (xs ys : List (List Int)) (hn : total xs ≤ 1048576) (hn2 : total ys ≤ 1048576) (B B' : Nat) (w : World) (h : GS B w v xs) (h' : GS B' w u ys) :
    Calls Tryd.prog 61 #[v, u] w fun e w' => e = .returned (.bool (geqB xs ys)) ∧ ∃ m, w' = w.drewN m := by
  have h := h.low (Nat.zero_le B)
  have h' := h'.low (Nat.zero_le B')
  have n1 : xs.length ≤ 1048576 := Nat.le_trans (total_len xs) hn
  have n2 : ys.length ≤ 1048576 := Nat.le_trans (total_len ys) hn2
  have HT := Lib.hid (fun i hi => Nat.le_trans (total_row xs i hi) hn)
  have HT' := Lib.hid (fun i hi => Nat.le_trans (total_row ys i hi) hn2)
  obtain ⟨A, c, rfl, _, _, hc⟩ := h
  obtain ⟨A', c', rfl, _, _, hc'⟩ := h'
  have HC := Lib.hid hc; clear hc
  have HC' := Lib.hid hc'; clear hc'
  by_cases hl : xs.length = ys.length
  · have HL := Lib.hid hl
    have ht : ((xs.length : Int) != (ys.length : Int)) = false := by rw [hl]; simp
    have hle : ys.length ≤ xs.length := by omega
    have hge : xs.length ≤ ys.length := by omega
    clear hl
    go_enter Tryd.func61, Tryd.ntmps61
    go_wp2_with fail
    go_loopw [5] (fun i wr => ∃ k m : Nat, i = .int .i64 k ∧ k ≤ xs.length ∧ wr = w.drewN m ∧ Hid (∀ j, j < k → xs.getD j [] = ys.getD j [])) (fun i _ => xs.length - (intOf i).toNat)
    case atStart => exact ⟨0, 0, rfl, Nat.zero_le _, rfl, Lib.hid (fun j hj => absurd hj (by omega))⟩
    case round =>
      obtain ⟨k, m, rfl, hk, rfl, hall⟩ := hrel
      by_cases hlt : k < xs.length
      · obtain ⟨b, off, rfl, _, hlb, hcell⟩ := HC.out (by omega)
        obtain ⟨b', off', rfl, _, hlb', hcell'⟩ := HC'.out (by omega)
        obtain ⟨x, h1, hx⟩ := hcell k hlt
        obtain ⟨y, h2, hy⟩ := hcell' k (by omega)
        have HCL := Lib.hid hcell; have HCL' := Lib.hid hcell'
        clear hcell hcell'
        have hlt' : (k : Int) < (xs.length : Int) := by omega
        have hlt2 : (k : Int) < (ys.length : Int) := by omega
        have HE := Lib.hid (fun n => quiet_at (eqInt8S_any x y (xs.getD k []) (ys.getD k []) (HT.out k hlt) (HT'.out k (by omega)) (w.drewN (m + n)) (hx.drewN (m + n)) (hy.drewN (m + n))))
        clear hx hy
        by_cases hxy : xs.getD k [] = ys.getD k []
        · have hstep := Lib.hid (gall_step hall.out hxy)
          have e1 : eqB (xs.getD k []) (ys.getD k []) = true := by rw [hxy]; exact eqB_refl _
          rw [e1] at HE
          have HXY := Lib.hid hxy
          clear e1 hxy
          go_wp2_with fail
          go_quiet ((exact HE.out _))
          go_wp2_with fail
          exact ⟨⟨k + 1, m + nq, by go_num, by omega, rfl, hstep⟩, by simp [intOf]; omega⟩
        · have hst := Lib.hid (geqB_ne (xs := xs) (ys := ys) k hxy)
          have e1 : eqB (xs.getD k []) (ys.getD k []) = false := by unfold eqB; rw [decide_eq_false_iff_not]; exact hxy
          rw [e1] at HE
          have HXY := Lib.hid hxy
          clear e1 hxy
          go_wp2_with fail
          go_quiet ((exact HE.out _))
          go_wp2_with fail
          go_ret
          exact ⟨by rw [hst.out]; rfl, m + nq, by simp⟩
      · have hst := Lib.hid (show geqB xs ys = true from geqB_all HL.out (fun j hj => hall.out j (by omega)))
        have hlt' : decide ((k : Int) < (xs.length : Int)) = false := by simp; omega
        go_wp2_with fail
        go_ret
        exact ⟨by rw [hst.out]; rfl, m, rfl⟩
  · have hst := Lib.hid (geqB_len hl)
    have ht : ((xs.length : Int) != (ys.length : Int)) = true := by rw [bne_iff_ne]; omega
    clear hl
    go_enter Tryd.func61, Tryd.ntmps61
    go_wp2_with fail
    go_ret
    exact ⟨by rw [hst.out]; rfl, 0, rfl⟩
end Go.Proofs.YtklddmmbbaaliaaDoor
