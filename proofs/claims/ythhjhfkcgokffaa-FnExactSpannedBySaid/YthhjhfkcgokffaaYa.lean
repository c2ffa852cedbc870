/-
  Lists of words that come in: opened, counted, copied into memory of their own, compared: the laws' own helpers szWordS, toWordS, eqWordS.
-/
import Derived.Test.YthhjhfkcgokffaaWc
import Derived.Deep.Matrix
import Derived.Deep.QuietTactic
import Derived.WideKeyArgs
namespace Go.Proofs.Ythhjhfkcgokffaa
set_option linter.unusedVariables false
set_option linter.unusedSimpArgs false
open Go.ChangeShapes Go.WideShapes Go.ChangeAt Go.RowKit Go.Deep

/-- a list of words whose lengths are ints -/
def WL (w : World) (v : Value) (gs : List (List Int)) : Prop := WS w v gs ∧ gs.length ≤ 9223372036854775807 ∧ (∀ i, i < gs.length → (gs.getD i []).length ≤ 9223372036854775807)
theorem WL.below {w w' : World} {v : Value} {gs : List (List Int)} (h : WL w v gs) (hb : Below w.heap.size w w') : WL w' v gs := ⟨h.1.below hb, h.2⟩
theorem rangeMap_getD (f : Nat → List Int) (n i : Nat) (hi : i < n) : ((List.range n).map f).getD i [] = f i := by
  simp [List.getD_eq_getElem?_getD, List.getElem?_map, List.getElem?_range hi]
theorem open_words {H : Type} {enc : TypeId × Value → H} {P : Program} {W : World} {base : Nat} {t e q : TypeId} {v : Value} {d : DataW H} {p : List MemPlace}
    (hl : laidOutB P = true) (hr : P.readableRec t = true) (hrow : t < P.types.size)
    (ht : P.underlying t = some (.slice e)) (he : P.underlying e = some (.slice q)) (hq : P.underlying q = some (.int .u16)) (ce : P.cellsOf e = 1) (cq : P.cellsOf q = 1) (hv : Value.okWide P W .any base t v)
    (h : DataW.Trod enc P W 0 (fun _ => true) true t v d p) (hlt : ∀ x ∈ p, x.block < W.heap.size) :
    ∃ gs, WL W v gs ∧ ∀ W' : World, Below W.heap.size W W' → ∀ sp : Nat → Bool, (∀ q ∈ p, sp q.block = true) → DataW.Trod enc P W' 0 sp true t v d p := by
  have hs : ∀ W' : World, Below W.heap.size W W' → ∀ sp : Nat → Bool, (∀ q ∈ p, sp q.block = true) → DataW.Trod enc P W' 0 sp true t v d p := fun W' hb sp hsp =>
    WideElems.Trod_stays hl hr hrow h (fun x hx => hb.same (hlt x hx)) hsp
  obtain ⟨a0, len, cap, rfl⟩ := okWide_slice ht hv
  obtain ⟨fuel, hf⟩ := h
  rcases open_int_rows ht he hq ce cq hf with ⟨hcs, hx⟩ | ⟨a, len', cap', A, Ln, C, Z, hcs, _, hle, hm, hx, hrows⟩
  · simp [Value.cells] at hcs
    obtain ⟨rfl, rfl, rfl⟩ := hcs
    exact ⟨[], ⟨⟨none, 0, rfl, by simp⟩, by simp, by simp⟩, hs⟩
  · simp [Value.cells] at hcs
    obtain ⟨rfl, rfl, rfl⟩ := hcs
    have lg : ((List.range len).map fun r => (Z r).take (Ln r)).length = len := by simp
    refine ⟨(List.range len).map fun r => (Z r).take (Ln r), ⟨⟨some a, cap, by rw [lg], fun hn => ?_⟩, by rw [lg]; unfold maxLen at hm; omega, fun i hi => ?_⟩, hs⟩
    · rw [lg] at hn
      obtain ⟨b, off, spot⟩ := a
      have hspot : spot = none := by simpa [Addr.add] using World.cell?_spot (hrows 0 (by omega)).1
      subst hspot
      refine ⟨b, off, rfl, block_of_cell (hrows 0 (by omega)).1, fun i hi => ?_⟩
      rw [lg] at hi
      rw [rangeMap_getD _ _ _ hi]
      obtain ⟨k0, k1, k2, k3, k4, k5, k6⟩ := hrows i (by omega)
      rw [add_plain] at k0
      refine ⟨_, k0, A i, C i, ?_, fun z hz => ?_, fun hn2 => ?_⟩
      · rw [List.length_take, Nat.min_eq_left (by omega)]
      · have := bounds_u16 (k4 z (List.mem_of_mem_take hz))
        omega
      · rw [List.length_take] at hn2
        cases hA : A i with
        | none => have := k5 hA; omega
        | some a' =>
          obtain ⟨b', off', spot'⟩ := a'
          have kk := (k6 _ hA).2
          have hspot' : spot' = none := by simpa [Addr.add] using World.cell?_spot (kk 0 (by omega))
          subst hspot'
          refine ⟨b', off', rfl, block_of_cell (kk 0 (by omega)), fun c hc => ?_⟩
          rw [List.length_take] at hc
          have := kk c (by omega)
          rw [add_plain] at this
          rw [this]
          simp [List.getD, List.getElem?_take, show c < Ln i from by omega]
    · rw [lg] at hi
      rw [rangeMap_getD _ _ _ hi]
      obtain ⟨_, k1, k2, k3, _⟩ := hrows i (by omega)
      rw [List.length_take]; unfold maxLen at k2; omega
/-- the length, and the lengths of the first i rows -/
def lensTo (gs : List (List Int)) : Nat → Nat
  | 0 => gs.length
  | i + 1 => lensTo gs i + (gs.getD i []).length
def total (gs : List (List Int)) : Nat := lensTo gs gs.length
theorem lens_mono (gs : List (List Int)) (i : Nat) : ∀ j, lensTo gs i ≤ lensTo gs (i + j)
  | 0 => Nat.le_refl _
  | j + 1 => Nat.le_trans (lens_mono gs i j) (by rw [← Nat.add_assoc]; exact Nat.le_add_right _ _)
theorem lens_le {gs : List (List Int)} {i j : Nat} (h : i ≤ j) : lensTo gs i ≤ lensTo gs j := by
  have := lens_mono gs i (j - i)
  rwa [Nat.add_sub_cancel' h] at this
theorem total_len (gs : List (List Int)) : gs.length ≤ total gs := lens_le (gs := gs) (Nat.zero_le gs.length)
theorem total_row (gs : List (List Int)) (i : Nat) (hi : i < gs.length) : (gs.getD i []).length ≤ total gs := by
  have h1 : lensTo gs (i + 1) ≤ total gs := lens_le (gs := gs) (by omega)
  have h2 : lensTo gs (i + 1) = lensTo gs i + (gs.getD i []).length := rfl
  omega
def szV (gs : List (List Int)) (l : Nat) : Value := if total gs ≤ l then .int .i64 ((l - total gs : Nat) : Int) else .int .i64 (-1)
theorem szWord_any (v : Value) (zs : List Int) (hz : zs.length ≤ 9223372036854775807) (l : Nat) (hl : l ≤ 1048576) (w : World) (h : NS w v zs) :
    Calls Try.prog 100 #[v, .int .i64 (l : Int)] w fun e w' => e = .returned (if zs.length ≤ l then .int .i64 ((l - zs.length : Nat) : Int) else .int .i64 (-1)) ∧ w' = w := by
  obtain ⟨A, c, rfl, _, hc⟩ := h
  have HC := Lib.hid hc; clear hc
  by_cases hlt : zs.length ≤ l
  · rw [if_pos hlt]
    obtain ⟨y, hy⟩ : ∃ y : Nat, y = l - zs.length := ⟨_, rfl⟩
    have e1 : (l : Int) - (zs.length : Int) = (y : Int) := by omega
    rw [← hy]
    clear hy
    have t1 : decide ((y : Int) < 0) = false := by simp
    go_enter Try.func100, Try.ntmps100
    go_wp2_with fail
    go_ret
    exact ⟨rfl, rfl⟩
  · rw [if_neg hlt]
    have t1 : decide ((l : Int) - (zs.length : Int) < 0) = true := by simp; omega
    go_enter Try.func100, Try.ntmps100
    go_wp2_with fail
    go_ret
    exact ⟨rfl, rfl⟩
set_option maxHeartbeats 1000000 in
theorem szWordS_any (v : Value) (gs : List (List Int)) (l : Nat) (hl : l ≤ 1048576) (w : World) (h : WL w v gs) :
    Calls Try.prog 50 #[v, .int .i64 (l : Int)] w fun e w' => e = .returned (szV gs l) ∧ w' = w := by
  obtain ⟨⟨A, c, rfl, hc⟩, hm, hm2⟩ := h
  have HC := Lib.hid hc; clear hc
  have HM := Lib.hid hm2; clear hm2
  have HT := Lib.hid (total_len gs)
  by_cases h0 : gs.length ≤ l
  · obtain ⟨y, hy⟩ : ∃ y : Nat, y = l - gs.length := ⟨_, rfl⟩
    have e1 : (l : Int) - (gs.length : Int) = (y : Int) := by omega
    have hy2 : y ≤ 1048576 := by omega
    have HY := Lib.hid hy
    have H0 := Lib.hid h0
    clear hy h0
    have t1 : decide ((y : Int) < 0) = false := by simp
    go_enter Try.func50, Try.ntmps50
    go_wp2_with fail
    go_loopw [5, 1] (fun i r wr => ∃ k x : Nat, i = .int .i64 k ∧ k ≤ gs.length ∧ r = .int .i64 x ∧ x ≤ 1048576 ∧ Hid (lensTo gs k + x = l) ∧ wr = w) (fun i _ _ => gs.length - (intOf i).toNat)
    case atStart => exact ⟨0, y, rfl, Nat.zero_le _, rfl, hy2, Lib.hid (by have := HY.out; have := H0.out; show gs.length + y = l; omega), rfl⟩
    case round =>
      clear t1 e1
      obtain ⟨k, x, rfl, hk, rfl, hx, HX, rfl⟩ := hrel
      by_cases hlt : k < gs.length
      · obtain ⟨b, off, rfl, hlb, hcell⟩ := HC.out (by omega)
        obtain ⟨u, h1, h2⟩ := hcell k hlt
        have hlt' : (k : Int) < (gs.length : Int) := by omega
        have HR := Lib.hid h2
        have HCL := Lib.hid hcell
        clear hcell h2
        have hr1 : lensTo gs (k + 1) = lensTo gs k + (gs.getD k []).length := rfl
        have hr2 := Lib.hid hr1
        clear hr1
        go_wp2_with fail
        refine (szWord_any u (gs.getD k []) (HM.out k hlt) x hx _ HR.out).mono ?_
        rintro e w' ⟨rfl, rfl⟩
        by_cases h3 : (gs.getD k []).length ≤ x
        · rw [if_pos h3]
          obtain ⟨z, hz⟩ : ∃ z : Nat, z = x - (gs.getD k []).length := ⟨_, rfl⟩
          have hz2 : z ≤ 1048576 := by omega
          have HZ := Lib.hid hz
          rw [← hz]
          have H3 := Lib.hid h3
          clear hz h3
          have t1 : decide ((z : Int) < 0) = false := by simp
          go_wp2_with fail
          exact ⟨⟨k + 1, z, by go_num, by omega, rfl, hz2, Lib.hid (by have := HX.out; have := HZ.out; have := H3.out; have := hr2.out; omega), by simp⟩, by simp [intOf]; omega⟩
        · rw [if_neg h3]
          have H3 := Lib.hid h3
          clear h3
          go_wp2_with fail
          go_ret
          refine ⟨?_, rfl⟩
          have : ¬ total gs ≤ l := by
            have q1 : lensTo gs (k + 1) ≤ total gs := lens_le (gs := gs) (by omega)
            have := HX.out; have := H3.out; have := hr2.out
            omega
          unfold szV
          rw [if_neg this]; rfl
      · have hke : k = gs.length := by omega
        have hlt' : decide ((k : Int) < (gs.length : Int)) = false := by simp; omega
        go_wp2_with fail
        go_ret
        refine ⟨?_, rfl⟩
        have q : lensTo gs k + x = l := HX.out
        rw [hke] at q
        have q' : total gs + x = l := q
        unfold szV
        rw [if_pos (by omega), show l - total gs = x from by omega]; rfl
  · have t1 : decide ((l : Int) - (gs.length : Int) < 0) = true := by simp; omega
    have hV : szV gs l = .int .i64 (-1) := by
      unfold szV
      have := HT.out
      rw [if_neg (by omega)]
    rw [hV]
    clear hV
    go_enter Try.func50, Try.ntmps50
    go_wp2_with fail
    go_ret
    exact ⟨rfl, rfl⟩
theorem infoWord : (Try.prog.info? 25).map (fun i => (i.zero, i.size, i.bytes)) = some (some (.slice none 0 0), 1, 24) := by kernel_rfl
theorem word_ne : 25 ≠ 39 := by decide
/-- rows of their own: each in memory of its own between the blocks B and T, no two in one block -/
def WR (w : World) (B T : Nat) (us : Nat → Value) (gs : List (List Int)) (n : Nat) : Prop :=
  (∀ i, i < n → PO w B (us i) (gs.getD i []) ∧ (0 < (gs.getD i []).length → ∀ k, (us i).ownBlock = some k → k < T)) ∧
  ∀ i j, i < j → j < n → 0 < (gs.getD i []).length → 0 < (gs.getD j []).length → (us i).ownBlock ≠ (us j).ownBlock
theorem WR.below {w w' : World} {B T n : Nat} {us : Nat → Value} {gs : List (List Int)} (h : WR w B T us gs n) (hb : Below w.heap.size w w') : WR w' B T us gs n :=
  ⟨fun i hi => ⟨(h.1 i hi).1.below hb, (h.1 i hi).2⟩, h.2⟩
theorem WR.up {w : World} {B T T' n : Nat} {us : Nat → Value} {gs : List (List Int)} (h : WR w B T us gs n) (hT : T ≤ T') : WR w B T' us gs n :=
  ⟨fun i hi => ⟨(h.1 i hi).1, fun hp k hk => Nat.lt_of_lt_of_le ((h.1 i hi).2 hp k hk) hT⟩, h.2⟩
theorem WR.zero (w : World) (B T : Nat) (us : Nat → Value) (gs : List (List Int)) : WR w B T us gs 0 := ⟨fun i hi => absurd hi (by omega), fun i j _ hj => absurd hj (by omega)⟩
def putAt (us : Nat → Value) (k : Nat) (u : Value) (i : Nat) : Value := if i = k then u else us i
theorem putAt_same (us : Nat → Value) (k : Nat) (u : Value) : putAt us k u k = u := if_pos rfl
theorem putAt_other (us : Nat → Value) {k i : Nat} (u : Value) (h : i ≠ k) : putAt us k u i = us i := if_neg h
/-- a row more, in a block behind all that stood -/
theorem WR.snoc {w w' : World} {B T n : Nat} {us : Nat → Value} {gs : List (List Int)} {u : Value} (h : WR w B T us gs n) (hb : Below w.heap.size w w') (hT : T ≤ w.heap.size) (hB : B ≤ w.heap.size) (hu : PO w' w.heap.size u (gs.getD n [])) : WR w' B w'.heap.size (putAt us n u) gs (n + 1) := by
  have h1 := h.below hb
  have hs := hb.size
  refine ⟨fun i hi => ?_, fun i j hij hj hp hq => ?_⟩
  · by_cases e : i = n
    · subst e
      rw [putAt_same]
      exact ⟨hu.lower hB, fun hp k hk => (hu.spot hp k hk).2⟩
    · rw [putAt_other _ _ e]
      have := h1.1 i (by omega)
      exact ⟨this.1, fun hp k hk => Nat.lt_of_lt_of_le (this.2 hp k hk) (by omega)⟩
  · have ei : i ≠ n := by omega
    rw [putAt_other _ _ ei]
    by_cases e : j = n
    · subst e
      rw [putAt_same]
      intro e2
      obtain ⟨A, c, rfl, h1', h2', hz, h3, h4⟩ := hu
      obtain ⟨g, k, rfl, ho⟩ := h4 hq
      have hk : (us i).ownBlock = some g := e2
      have q1 := (h.1 i (by omega)).2 hp g hk
      have q2 : w.heap.size ≤ g := by
        rcases ho.2 with ⟨e, _⟩ | ⟨g', _, _, e, hb', _⟩
        · cases e
        · cases e; exact hb'
      omega
    · rw [putAt_other _ _ e]
      exact h.2 i j hij (by omega) hp hq
/-- the value v is a slice of words, the row and the words in memory of their own between the blocks B and T -/
def WO (w : World) (B T : Nat) (v : Value) (gs : List (List Int)) : Prop :=
  ∃ A c us, v = .slice A gs.length c ∧ gs.length ≤ c ∧ c ≤ maxLen ∧ (A = none → c = 0) ∧ (0 < gs.length → ∃ b cur, A = some ⟨b, 0, none⟩ ∧ B ≤ b ∧ b < T ∧ w.heap[b]? = some (.cells cur 25 (0, 0)) ∧ ∀ i, i < gs.length → cur[i]? = some (us i)) ∧ WR w B T us gs gs.length
theorem WO.below {w w' : World} {B T : Nat} {v : Value} {gs : List (List Int)} (h : WO w B T v gs) (hb : Below w.heap.size w w') : WO w' B T v gs := by
  obtain ⟨A, c, us, e, q1, q2, q3, hc, hr⟩ := h
  refine ⟨A, c, us, e, q1, q2, q3, fun hn => ?_, hr.below hb⟩
  obtain ⟨b, cur, hA, hB, hT, hg, hcell⟩ := hc hn
  exact ⟨b, cur, hA, hB, hT, (hb.block b (Array.getElem?_eq_some_iff.1 hg).1).trans hg, hcell⟩
theorem WO.up {w : World} {B T T' : Nat} {v : Value} {gs : List (List Int)} (h : WO w B T v gs) (hT : T ≤ T') : WO w B T' v gs := by
  obtain ⟨A, c, us, e, q1, q2, q3, hc, hr⟩ := h
  refine ⟨A, c, us, e, q1, q2, q3, fun hn => ?_, hr.up hT⟩
  obtain ⟨b, cur, hA, hB, h1, hg, hcell⟩ := hc hn
  exact ⟨b, cur, hA, hB, Nat.lt_of_lt_of_le h1 hT, hg, hcell⟩
theorem WO.ws {w : World} {B T : Nat} {v : Value} {gs : List (List Int)} (h : WO w B T v gs) : WS w v gs := by
  obtain ⟨A, c, us, rfl, q1, q2, q3, hc, hr⟩ := h
  refine ⟨A, c, rfl, fun hn => ?_⟩
  obtain ⟨b, cur, hA, hB, hT, hg, hcell⟩ := hc hn
  refine ⟨b, 0, hA, (Array.getElem?_eq_some_iff.1 hg).1, fun i hi => ⟨us i, ?_, (hr.1 i hi).1.ns⟩⟩
  rw [Nat.zero_add]
  exact (cell_of_row _ _ _ _ _ _ hg).trans (hcell i hi)
theorem WO.nil {w : World} {B T : Nat} {A : Option Addr} {c : Nat} (hc : c ≤ maxLen) (hA : A = none → c = 0) : WO w B T (.slice A 0 c) [] :=
  ⟨A, c, fun _ => .nilFunc, rfl, Nat.zero_le _, hc, hA, fun hn => absurd hn (by simp), WR.zero _ _ _ _ _⟩
theorem WO.nil0 (w : World) (B T : Nat) : WO w B T (.slice none 0 0) [] := WO.nil (Nat.zero_le _) (fun _ => rfl)
/-- out of an own row -/
theorem WO.of_own {w : World} {B n : Nat} {v : Value} {us : Nat → Value} {vs : List Value} {gs : List (List Int)} (h : w.ownsRow B 25 1 v n vs) (hn : gs.length = n) (hv : ∀ i, i < gs.length → vs[i]? = some (us i)) (hr : WR w B w.heap.size us gs gs.length) : WO w B w.heap.size v gs := by
  subst hn
  rcases h.2 with ⟨e, h0⟩ | ⟨g, cap, cur, e, hb, hg, h1, h2, h3, h4⟩
  · subst e
    have h0' : gs.length = 0 := by first | exact h0 | omega
    exact ⟨none, 0, us, by rw [h0'], by omega, by unfold maxLen; omega, fun _ => rfl, fun hn => by omega, hr⟩
  · subst e
    refine ⟨some ⟨g, 0, none⟩, cap, us, rfl, h1, h2, fun e => (by cases e), fun _ => ⟨g, cur, rfl, hb, (Array.getElem?_eq_some_iff.1 hg).1, hg, fun i hi => ?_⟩, hr⟩
    rw [← hv i hi, ← h4]
    rw [Nat.mul_one, List.getElem?_take, if_pos hi]
    simp
set_option maxHeartbeats 1000000 in
theorem toWordS_any (v : Value) (gs : List (List Int)) (hn : total gs ≤ 1048576) (w : World) (h : WS w v gs) :
    Calls Try.prog 52 #[v] w fun e w' => ∃ u, e = .returned u ∧ Below w.heap.size w w' ∧ WO w' w.heap.size w'.heap.size u gs := by
  obtain ⟨A, c, rfl, hc⟩ := h
  obtain ⟨i0, hi, hz0, hz1, hz2⟩ := info_parts infoWord
  have HC := Lib.hid hc; clear hc
  have HT := Lib.hid (fun i => total_row gs i)
  have hlen : gs.length ≤ 1048576 := Nat.le_trans (total_len gs) hn
  go_enter Try.func52, Try.ntmps52
  go_wp2_with (at_make; refine wpList_make_full _ rfl _ _ 44 rfl w.heap.size 25 i0 (.slice none 0 0) 1 Try.underlying44 hi hz0 hz1 _ _ _ _ gs.length rfl rfl rfl rfl (by rw [hz2]; omega) (by unfold maxLen; omega) (Nat.le_refl _) ?_)
  intro w1 hown hgrow
  have hb1 : Below w.heap.size w w1 := (Below.refl _ w).grown hgrow (Nat.le_refl _) (fun k hk => by cases hk)
  obtain ⟨g, hg⟩ : ∃ g, g = w.heap.size := ⟨_, rfl⟩
  rw [← hg] at hown hb1 ⊢
  have hsz : g < w1.heap.size := (hown.lt g rfl).2
  have HG := Lib.hid hg; clear hg
  obtain ⟨vs0, hvs⟩ : ∃ vs0, vs0 = (madeCells #[Value.slice none 0 0] gs.length).toList := ⟨_, rfl⟩
  rw [← hvs] at hown
  have hlv : vs0.length = gs.length := by have := hown.1; omega
  have HOWN := Lib.hid hown
  have HB1 := Lib.hid hb1
  clear hown hgrow hvs hb1
  go_wp2_with fail
  go_loopw [4] (fun i wr => ∃ (k : Nat) (vs : List Value) (us : Nat → Value), i = .int .i64 k ∧ k ≤ gs.length ∧ g < wr.heap.size ∧ Hid (Below g w wr) ∧ Hid (wr.ownsRow g 25 1 (.slice (some ⟨g, 0, none⟩) gs.length gs.length) gs.length vs) ∧ Hid ((∀ j, j < k → vs[j]? = some (us j)) ∧ WR wr (g + 1) wr.heap.size us gs k)) (fun i _ => gs.length - (intOf i).toNat)
  case atStart => exact ⟨0, vs0, fun _ => .nilFunc, rfl, Nat.zero_le _, hsz, HB1, HOWN, Lib.hid ⟨fun j hj => absurd hj (by omega), WR.zero _ _ _ _ _⟩⟩
  case round =>
    obtain ⟨k, vs, us, rfl, hk, hgs, HB, HO, HH⟩ := hrel
    clear HB1 HOWN hlv hsz
    by_cases hlt : k < gs.length
    · obtain ⟨b, off, rfl, hlb, hcell⟩ := HC.out (by omega)
      obtain ⟨u, h1, h2⟩ := hcell k hlt
      have h1 : wr.cell? ⟨b, off + k, none⟩ = some u := (HB.out.cell (p := ⟨b, off + k, none⟩) (by rw [HG.out]; exact hlb)).trans h1
      have hbw : Below w.heap.size w wr := by rw [← HG.out]; exact HB.out
      have h2 := Lib.hid (h2.below hbw)
      have hlt' : (k : Int) < (gs.length : Int) := by omega
      have HCL := Lib.hid hcell
      clear hcell hbw
      go_wp2_with fail
      refine (toWord_any u (gs.getD k []) (Nat.le_trans (HT.out k hlt) hn) _ h2.out).mono ?_
      rintro e w2 ⟨x, rfl, hb2, ho2⟩
      have hx : PO w2 wr.heap.size x (gs.getD k []) := PO.of_own ho2 rfl h2.out.all
      have hh3 := HH.out.2.snoc hb2 (Nat.le_refl _) (by omega) hx
      obtain ⟨A2, c2, hx2, _⟩ := id hx
      obtain ⟨n2, hL⟩ : ∃ n2, n2 = (gs.getD k []).length := ⟨_, rfl⟩
      rw [← hL] at hx2
      subst hx2
      have HL2 := Lib.hid hL
      clear hL
      have ho3 := own_below HO.out hb2
      have hb3 : Below g w w2 := HB.out.trans (hb2.mono (by omega))
      have hgs2 : g < w2.heap.size := Nat.lt_of_lt_of_le hgs hb2.size
      have hvk : vs.length = gs.length := by have := ho3.1; omega
      have hvs2 : ∀ j, j < k + 1 → (vs.set k (.slice A2 n2 c2))[j]? = some (putAt us k (.slice A2 n2 c2) j) := fun j hj => by
        by_cases e : j = k
        · subst e
          rw [putAt_same, List.getElem?_set, if_pos rfl, if_pos (by omega)]
        · rw [putAt_other _ _ e, List.getElem?_set, if_neg (fun x => e x.symm)]
          exact HH.out.1 j (by omega)
      have h4 : w2.cell? ⟨g, k, none⟩ = vs[k]? := ho3.cellAt k (by omega)
      have h5 : w2.frozen? ⟨g, k, none⟩ = false := ho3.frozenAt k
      have h6 := Lib.hid (ho3.stored k (.slice A2 n2 c2)).1
      have hw3 : WR (w2.setCell ⟨g, k, none⟩ (.slice A2 n2 c2)) (g + 1) (w2.setCell ⟨g, k, none⟩ (.slice A2 n2 c2)).heap.size (putAt us k (.slice A2 n2 c2)) gs (k + 1) := by
        have e : (w2.setCell ⟨g, k, none⟩ (.slice A2 n2 c2)).heap.size = w2.heap.size := by simp [World.setCell]
        rw [e]
        refine ⟨fun i hi => ⟨?_, (hh3.1 i hi).2⟩, hh3.2⟩
        have hpo := (hh3.1 i hi).1
        obtain ⟨A', c', e', p1, p2, hz, p3, p4⟩ := hpo
        refine ⟨A', c', e', p1, p2, hz, p3, fun hnz => ?_⟩
        obtain ⟨g', k', rfl, ho⟩ := p4 hnz
        refine ⟨g', k', rfl, ho.kept (grown_put w2 g k (.slice A2 n2 c2)) (.inr ?_)⟩
        rcases ho.2 with ⟨e0, h0⟩ | ⟨g'', cap, cur, e0, hb', hg', _⟩
        · cases e0
        · cases e0
          intro e1
          have e2 : g' = g := by simpa [Value.ownBlock] using e1
          omega
      have h7 := Lib.hid (And.intro hvs2 hw3)
      have h8 := Lib.hid (hb3.setCell (p := ⟨g, k, none⟩) (Nat.le_refl _) (.slice A2 n2 c2))
      have h9 : g < (w2.setCell ⟨g, k, none⟩ (.slice A2 n2 c2)).heap.size := by simpa [World.setCell] using hgs2
      obtain ⟨y, hy⟩ : ∃ y, vs[k]? = some y := ⟨_, List.getElem?_eq_getElem (by omega)⟩
      rw [hy] at h4
      have H9 := Lib.hid h9
      clear h1 HB HO HH hb2 ho2 ho3 hh3 hb3 hx hy h9 hgs2 hgs hvk hvs2 hw3
      go_wp2_with fail
      go_roundw
      case rel => exact ⟨k + 1, _, _, by go_num, by omega, H9.out, h8, h6, h7⟩
      case measure => simp [intOf]; omega
    · have hke : k = gs.length := by omega
      have hlt' : decide ((k : Int) < (gs.length : Int)) = false := by simp; omega
      go_wp2_with fail
      go_ret
      refine ⟨_, rfl, by rw [← HG.out]; exact HB.out, ?_⟩
      rw [← HG.out]
      have hr := HH.out.2
      rw [hke] at hr
      exact WO.of_own HO.out rfl (fun i hi => HH.out.1 i (by omega)) ⟨fun i hi => ⟨(hr.1 i hi).1.lower (by omega), (hr.1 i hi).2⟩, hr.2⟩
theorem quiet_at {P : Program} {f : FuncId} {args : Array Value} {w : World} {m n : Nat} {v : Value} (h : Calls P f args (w.drewN (m + n)) fun e w' => e = .returned v ∧ ∃ k, w' = (w.drewN (m + n)).drewN k) :
    Calls P f args (w.drewN (m + n)) fun e w'' => e = .returned v ∧ ∃ n, w'' = w.drewN (m + n) :=
  h.mono fun _ _ ⟨he, k, hk⟩ => ⟨he, n + k, by rw [hk, World.drewN_drewN, Nat.add_assoc]⟩
def geqB (xs ys : List (List Int)) : Bool := decide (xs = ys)
theorem geqB_refl (xs : List (List Int)) : geqB xs xs = true := by unfold geqB; simp
theorem geqB_len {xs ys : List (List Int)} (h : ¬ xs.length = ys.length) : geqB xs ys = false := by
  unfold geqB; simp; intro e; exact h (by rw [e])
theorem geqB_ne {xs ys : List (List Int)} (k : Nat) (h : ¬ xs.getD k [] = ys.getD k []) : geqB xs ys = false := by
  unfold geqB; simp; intro e; exact h (by rw [e])
theorem geqB_all {xs ys : List (List Int)} (hl : xs.length = ys.length) (h : ∀ j, j < xs.length → xs.getD j [] = ys.getD j []) : geqB xs ys = true := by
  unfold geqB; simp
  apply List.ext_getElem hl
  intro i h1 h2
  have := h i h1
  simpa [List.getD, h1, h2] using this
theorem gall_step {xs ys : List (List Int)} {k : Nat} (h : ∀ j, j < k → xs.getD j [] = ys.getD j []) (e : xs.getD k [] = ys.getD k []) : ∀ j, j < k + 1 → xs.getD j [] = ys.getD j [] := by
  intro j hj
  by_cases h1 : j < k
  · exact h j h1
  · rw [show j = k from by omega]; exact e
set_option maxHeartbeats 1000000 in
theorem eqWordS_any (v u : Value) (xs ys : List (List Int)) (hn : total xs ≤ 1048576) (hn2 : total ys ≤ 1048576) (w : World) (h : WS w v xs) (h' : WS w u ys) :
    Calls Try.prog 45 #[v, u] w fun e w' => e = .returned (.bool (geqB xs ys)) ∧ ∃ m, w' = w.drewN m := by
  have n1 : xs.length ≤ 1048576 := Nat.le_trans (total_len xs) hn
  have n2 : ys.length ≤ 1048576 := Nat.le_trans (total_len ys) hn2
  have HT := Lib.hid (fun i hi => Nat.le_trans (total_row xs i hi) hn)
  have HT' := Lib.hid (fun i hi => Nat.le_trans (total_row ys i hi) hn2)
  obtain ⟨A, c, rfl, hc⟩ := h
  obtain ⟨A', c', rfl, hc'⟩ := h'
  have HC := Lib.hid hc; clear hc
  have HC' := Lib.hid hc'; clear hc'
  by_cases hl : xs.length = ys.length
  · have HL := Lib.hid hl
    have ht : ((xs.length : Int) != (ys.length : Int)) = false := by rw [hl]; simp
    have hle : ys.length ≤ xs.length := by omega
    have hge : xs.length ≤ ys.length := by omega
    clear hl
    go_enter Try.func45, Try.ntmps45
    go_wp2_with fail
    go_loopw [5] (fun i wr => ∃ k m : Nat, i = .int .i64 k ∧ k ≤ xs.length ∧ wr = w.drewN m ∧ Hid (∀ j, j < k → xs.getD j [] = ys.getD j [])) (fun i _ => xs.length - (intOf i).toNat)
    case atStart => exact ⟨0, 0, rfl, Nat.zero_le _, rfl, Lib.hid (fun j hj => absurd hj (by omega))⟩
    case round =>
      obtain ⟨k, m, rfl, hk, rfl, hall⟩ := hrel
      by_cases hlt : k < xs.length
      · obtain ⟨b, off, rfl, hlb, hcell⟩ := HC.out (by omega)
        obtain ⟨b', off', rfl, hlb', hcell'⟩ := HC'.out (by omega)
        obtain ⟨x, h1, hx⟩ := hcell k hlt
        obtain ⟨y, h2, hy⟩ := hcell' k (by omega)
        have HCL := Lib.hid hcell; have HCL' := Lib.hid hcell'
        clear hcell hcell'
        have hlt' : (k : Int) < (xs.length : Int) := by omega
        have hlt2 : (k : Int) < (ys.length : Int) := by omega
        have HE := Lib.hid (fun n => quiet_at (eqWord_any x y (xs.getD k []) (ys.getD k []) (HT.out k hlt) (HT'.out k (by omega)) (w.drewN (m + n)) (hx.below (bdrewN (Below.refl _ w) (m + n))) (hy.below (bdrewN (Below.refl _ w) (m + n)))))
        clear hx hy
        by_cases hxy : xs.getD k [] = ys.getD k []
        · have hstep := Lib.hid (gall_step hall.out hxy)
          have e1 : eqB (xs.getD k []) (ys.getD k []) = true := by rw [hxy]; exact eqB_refl _
          rw [e1] at HE
          have HXY := Lib.hid hxy
          clear e1 hxy
          go_wp2_with fail
          go_quiet ((exact HE.out _))
          go_wp2_with fail
          exact ⟨⟨k + 1, m + nq, by go_num, by omega, rfl, hstep⟩, by simp [intOf]; omega⟩
        · have hst := Lib.hid (geqB_ne (xs := xs) (ys := ys) k hxy)
          have e1 : eqB (xs.getD k []) (ys.getD k []) = false := by unfold eqB; rw [decide_eq_false_iff_not]; exact hxy
          rw [e1] at HE
          have HXY := Lib.hid hxy
          clear e1 hxy
          go_wp2_with fail
          go_quiet ((exact HE.out _))
          go_wp2_with fail
          go_ret
          exact ⟨by rw [hst.out]; rfl, m + nq, by simp⟩
      · have hst := Lib.hid (show geqB xs ys = true from geqB_all HL.out (fun j hj => hall.out j (by omega)))
        have hlt' : decide ((k : Int) < (xs.length : Int)) = false := by simp; omega
        go_wp2_with fail
        go_ret
        exact ⟨by rw [hst.out]; rfl, m, rfl⟩
  · have hst := Lib.hid (geqB_len hl)
    have ht : ((xs.length : Int) != (ys.length : Int)) = true := by rw [bne_iff_ne]; omega
    clear hl
    go_enter Try.func45, Try.ntmps45
    go_wp2_with fail
    go_ret
    exact ⟨by rw [hst.out]; rfl, 0, rfl⟩
end Go.Proofs.Ythhjhfkcgokffaa
