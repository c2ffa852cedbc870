/-
  Lists of indices that are read while gates are added.
-/
import Derived.Test.YtedcfmdgcafnmaaDoorDa
import Derived.Test.YtedcfmdgcafnmaaDoorCk
namespace Go.Proofs.YtedcfmdgcafnmaaDoor
set_option linter.unusedVariables false
set_option linter.unusedSimpArgs false
open Go.ChangeShapes Go.WideShapes Go.ChangeAt Go.RowKit Go.Deep
theorem gt_i16 : 65 ≠ 67 := by decide
/-- a list of indices that is read; its block holds nothing else than indices -/
def TL (w : World) (v : Value) (xs : List Int) : Prop :=
  ∃ b off c cur, v = .slice (some ⟨b, off, none⟩) xs.length c ∧ xs.length ≤ c ∧ c ≤ maxLen ∧ w.heap[b]? = some (.cells cur 65 (0, 0)) ∧ w.rangeAt b off (i16s xs) ∧ ∀ z ∈ xs, IW z
theorem TL.keep {w w' : World} {v : Value} {xs : List Int} (h : TL w v xs) (hk : ∀ (k : Nat) cur t, w.heap[k]? = some (.cells cur 65 t) → w'.heap[k]? = w.heap[k]?) : TL w' v xs := by
  obtain ⟨b, off, c, cur, hv, h1, h2, hc, hr, hw⟩ := h
  have e := hk b cur _ hc
  exact ⟨b, off, c, cur, hv, h1, h2, e.trans hc, fun j u hu => (World.cell?_of_block e).trans (hr j u hu), hw⟩
theorem TL.ad {B gp : Nat} {PT : TypeId} {w w' : World} {v : Value} {xs : List Int} (hP : 65 ≠ PT) (h : TL w v xs) (ha : AD B gp PT w w') : TL w' v xs := h.keep (fun k cur t hk => ha.row _ gt_i16 hP k cur t hk)
theorem TL.below {w w' : World} {v : Value} {xs : List Int} (h : TL w v xs) (hb : Below w.heap.size w w') : TL w' v xs := h.keep (fun k cur t hk => hb.block k (Array.getElem?_eq_some_iff.1 hk).1)
theorem TL.at {w : World} {v : Value} {xs : List Int} (h : TL w v xs) (i : Nat) (hi : i < xs.length) :
    ∃ b off c, v = .slice (some ⟨b, off, none⟩) xs.length c ∧ IW (xs.getD i 0) ∧ w.cell? ⟨b, off + i, none⟩ = some (.int .i16 (xs.getD i 0)) := by
  obtain ⟨b, off, c, cur, rfl, h1, h2, hc, hr, hw⟩ := h
  have e : xs.getD i 0 = xs[i] := by simp [List.getD, hi]
  exact ⟨b, off, c, rfl, by rw [e]; exact hw _ (List.getElem_mem hi), hr i _ (by simp [i16s, List.getD, hi])⟩
theorem TL.form {w : World} {v : Value} {xs : List Int} (h : TL w v xs) : ∃ b off c, v = .slice (some ⟨b, off, none⟩) xs.length c ∧ xs.length ≤ c ∧ c ≤ maxLen := by
  obtain ⟨b, off, c, cur, hv, h1, h2, _⟩ := h
  exact ⟨b, off, c, hv, h1, h2⟩
theorem TL.all {w : World} {v : Value} {xs : List Int} (h : TL w v xs) : ∀ z ∈ xs, IW z := by
  obtain ⟨b, off, c, cur, hv, h1, h2, hc, hr, hw⟩ := h
  exact hw
theorem TL.of_own {w : World} {B : Nat} {v : Value} {xs : List Int} (h : w.ownsRow B 65 1 v xs.length (i16s xs)) (hn : 0 < xs.length) (hw : ∀ z ∈ xs, IW z) : TL w v xs := by
  have hr := LS.of_own h
  rcases h.2 with ⟨_, e⟩ | ⟨g, cap, cur, rfl, _, hg, h1, h2, _⟩
  · omega
  · obtain ⟨A, c, e, _, hc⟩ := hr
    cases e
    obtain ⟨b, off, e, _, hr⟩ := hc hn
    cases e
    exact ⟨g, 0, cap, cur, rfl, h1, h2, hg, hr, hw⟩
theorem TL.take {w : World} {b off c n : Nat} {xs : List Int} (h : TL w (.slice (some ⟨b, off, none⟩) n c) xs) (t : Nat) (ht : t ≤ xs.length) : TL w (.slice (some ⟨b, off, none⟩) t c) (xs.take t) := by
  obtain ⟨b', off', c', cur, e, h1, h2, hc, hr, hw⟩ := h
  cases e
  have hl : (xs.take t).length = t := by rw [List.length_take]; omega
  refine ⟨b, off, c, cur, by rw [hl], by omega, h2, hc, fun j u hu => hr j u ?_, fun z hz => hw z (List.mem_of_mem_take hz)⟩
  have hj : j < t := by have := (List.getElem?_eq_some_iff.1 hu).1; simp [i16s] at this; omega
  simpa [i16s, List.getElem?_take, hj] using hu
theorem TL.drop {w : World} {b off c n : Nat} {xs : List Int} (h : TL w (.slice (some ⟨b, off, none⟩) n c) xs) (t : Nat) (ht : t ≤ xs.length) : TL w (.slice (some ⟨b, off + t, none⟩) (n - t) (c - t)) (xs.drop t) := by
  obtain ⟨b', off', c', cur, e, h1, h2, hc, hr, hw⟩ := h
  cases e
  refine ⟨b, off + t, c - t, cur, by rw [List.length_drop], by rw [List.length_drop]; omega, by omega, hc, fun j u hu => ?_, fun z hz => hw z (List.mem_of_mem_drop hz)⟩
  have := hr (t + j) u (by simpa [i16s, List.getElem?_drop] using hu)
  rw [Nat.add_assoc]; exact this
/-- gates made of two lists, the first k of them; their places -/
def pairG (kd : Int) (xs ys : List Int) (k : Nat) : List G3 := (List.range k).map fun i => (kd, xs.getD i 0, ys.getD i 0)
def outsL (s k : Nat) : List Int := (List.range k).map fun i => ((s + i : Nat) : Int)
theorem pairG_succ (kd : Int) (xs ys : List Int) (k : Nat) : pairG kd xs ys (k + 1) = pairG kd xs ys k ++ [(kd, xs.getD k 0, ys.getD k 0)] := by simp [pairG, List.range_succ]
theorem outsL_succ (s k : Nat) : outsL s (k + 1) = outsL s k ++ [((s + k : Nat) : Int)] := by simp [outsL, List.range_succ]
theorem pairG_len (kd : Int) (xs ys : List Int) (k : Nat) : (pairG kd xs ys k).length = k := by simp [pairG]
theorem outsL_len (s k : Nat) : (outsL s k).length = k := by simp [outsL]
theorem outsL_w (s k : Nat) (h : s + k < 32768) : ∀ z ∈ outsL s k, IW z := by
  intro z hz
  obtain ⟨j, hj, rfl⟩ := List.mem_map.1 hz
  have := List.mem_range.1 hj
  constructor <;> omega

set_option maxHeartbeats 1000000 in
theorem implxor_any (B gp : Nat) (PT : TypeId) (hP : PT ≠ 67) (a b : Int) (gs : List G3) (hl : gs.length < 30000) (w : World) (h : ST B gp PT w gs) :
    Calls Tryd.prog 130 #[.pointer (some ⟨gp, 0, none⟩), .int .i16 a, .int .i16 b] w fun e w' => e = .returned (.int .i16 ((gs.length : Nat) : Int)) ∧ ST B gp PT w' (gs ++ [(2, a, b)]) ∧ AD B gp PT w w' := by
  go_enter Tryd.func130, Tryd.ntmps130
  go_wp2_with fail
  refine (implAdd_any B gp PT hP (2, a, b) gs hl w h).mono ?_
  rintro e w2 ⟨rfl, h2⟩
  have H2 := Lib.hid h2
  clear h2
  go_wp2_with fail
  go_ret
  exact ⟨rfl, H2.out⟩

set_option maxHeartbeats 1000000 in
theorem impland_any (B gp : Nat) (PT : TypeId) (hP : PT ≠ 67) (a b : Int) (gs : List G3) (hl : gs.length < 30000) (w : World) (h : ST B gp PT w gs) :
    Calls Tryd.prog 132 #[.pointer (some ⟨gp, 0, none⟩), .int .i16 a, .int .i16 b] w fun e w' => e = .returned (.int .i16 ((gs.length : Nat) : Int)) ∧ ST B gp PT w' (gs ++ [(3, a, b)]) ∧ AD B gp PT w w' := by
  go_enter Tryd.func132, Tryd.ntmps132
  go_wp2_with fail
  refine (implAdd_any B gp PT hP (3, a, b) gs hl w h).mono ?_
  rintro e w2 ⟨rfl, h2⟩
  have H2 := Lib.hid h2
  clear h2
  go_wp2_with fail
  go_ret
  exact ⟨rfl, H2.out⟩

theorem own_ad {B gp B' s n : Nat} {PT e : TypeId} {w w' : World} {v : Value} {cs : List Value} (h1 : e ≠ 67) (h2 : e ≠ PT) (ho : w.ownsRow B' e s v n cs) (ha : AD B gp PT w w') : w'.ownsRow B' e s v n cs := by
  refine ⟨ho.1, ?_⟩
  rcases ho.2 with q | ⟨g, cap, cur, q1, q2, q3, q4⟩
  · exact .inl q
  · exact .inr ⟨g, cap, cur, q1, q2, (ha.row e h1 h2 g cur _ q3).trans q3, q4⟩
theorem AD.after {B gp : Nat} {PT : TypeId} {w w1 w2 : World} {r : Option Nat} (ha : AD B gp PT w w1) (hg : w1.grownBy w2 r) (hr : ∀ k, r = some k → w.heap.size ≤ k) (hB : B ≤ gp) (hgp : gp < w.heap.size) : AD B gp PT w w2 :=
  ⟨hg.os.trans ha.os, hg.tape.trans ha.tape, hg.output.trans ha.output, Nat.le_trans ha.size hg.size,
   fun k hk => (hg.block k (by have := ha.size; omega) (fun e => by have := hr k e.symm; omega)).trans (ha.low k hk),
   fun e h1 h2 k cur t hk => by
     have hl := (Array.getElem?_eq_some_iff.1 hk).1
     exact (hg.block k (Nat.lt_of_lt_of_le hl ha.size) (fun e => by have := hr k e.symm; omega)).trans (ha.row e h1 h2 k cur t hk),
   fun i hi => (World.cell?_of_block (hg.block gp (Nat.lt_of_lt_of_le hgp ha.size) (fun e => by have := hr gp e.symm; omega))).trans (ha.off i hi),
   fun k es cl hk => by
     have hl := (Array.getElem?_eq_some_iff.1 hk).1
     exact (hg.block k (Nat.lt_of_lt_of_le hl ha.size) (fun e => by have := hr k e.symm; omega)).trans (ha.mp k es cl hk)⟩
theorem grown_putd (w : World) (g o : Nat) (x : Value) : w.grownBy (w.setCell ⟨g, o, none⟩ x) (some g) :=
  ⟨rfl, rfl, rfl, by simp [World.setCell], fun k hk hne => heap_setCell_other _ _ _ _ (fun e => hne (by rw [e]))⟩
/-- a row of indices turns, and the gates stay -/
theorem ST.grown {B gp : Nat} {PT : TypeId} {w w' : World} {gs : List G3} {r : Option Nat} (h : ST B gp PT w gs) (hP : 65 ≠ PT) (hg : w.grownBy w' r) (hr : ∀ k, r = some k → ∃ cur t, w.heap[k]? = some (.cells cur 65 t)) : ST B gp PT w' gs := by
  have hl := h.lt
  obtain ⟨h1, ⟨cur, hc, hp⟩, v, hv, ho⟩ := h
  have e := hg.block gp hl (fun e => by
    obtain ⟨c', t, h'⟩ := hr gp e.symm
    rw [hc] at h'
    exact hP (by cases h'; rfl))
  exact ⟨h1, ⟨cur, e.trans hc, hp⟩, v, (World.cell?_of_block e).trans hv, own_grown ho hg (fun k hk e2 => by
    obtain ⟨c', t, h'⟩ := hr k e2
    obtain ⟨c'', h''⟩ := own_type ho k hk
    rw [h''] at h'
    cases h')⟩
/-- the list of places while it is made, in a row of its whole length -/
def rowF (s n k : Nat) : List Int := outsL s k ++ List.replicate (n - k) 0
theorem rowF_zero (s n : Nat) : rowF s n 0 = List.replicate n 0 := by simp [rowF, outsL]
theorem rowF_end (s n : Nat) : rowF s n n = outsL s n := by simp [rowF]
theorem rowF_len (s n k : Nat) (hk : k ≤ n) : (rowF s n k).length = n := by simp [rowF, outsL]; omega
theorem rowF_set (s n k : Nat) (hk : k < n) : (rowF s n k).set k ((s + k : Nat) : Int) = rowF s n (k + 1) := by
  unfold rowF
  rw [List.set_append_right k _ (by rw [outsL_len]; exact Nat.le_refl _), outsL_len, Nat.sub_self, show n - k = (n - (k + 1)) + 1 from by omega, List.replicate_succ, List.set_cons_zero, outsL_succ, List.append_assoc]
  rfl

set_option maxHeartbeats 4000000 in
set_option maxRecDepth 100000 in
theorem pairxor_any (B gp : Nat) (PT : TypeId) (hP : PT ≠ 67) (hP2 : 65 ≠ PT) (v u : Value) (xs ys : List Int) (gs : List G3) (hl : gs.length + xs.length < 20000) (hxy : xs.length = ys.length) (w : World) (h : ST B gp PT w gs) (h1 : TL w v xs) (h2 : TL w u ys) :
    Calls Tryd.prog 129 #[v, u, .func (Fn.func 130) #[.pointer (some ⟨gp, 0, none⟩)] #[]] w fun e w' => ∃ r, e = .returned r ∧ ST B gp PT w' (gs ++ pairG 2 xs ys xs.length) ∧ w'.ownsRow w.heap.size 65 1 r xs.length (i16s (outsL gs.length xs.length)) ∧ AD B gp PT w w' := by
  have H := Lib.hid h; have H1 := Lib.hid h1; have H2 := Lib.hid h2
  have HP := Lib.hid hP; have HP2 := Lib.hid hP2
  have HGP := Lib.hid h.lt
  obtain ⟨b, off, c, rfl, hcx, hcm⟩ := h1.form
  obtain ⟨b', off', c', rfl, hcx', hcm'⟩ := h2.form
  have HXY := Lib.hid hxy
  clear h h1 h2 hP hP2 hxy hcx hcx' hcm hcm'
  obtain ⟨i0, hi, hz0, hz1, hz2⟩ := info_parts infoI16
  go_enter Tryd.func129, Tryd.ntmps129
  go_wp2_with (at_make; refine wpList_make_full _ rfl _ _ 72 rfl w.heap.size 65 i0 (.int .i16 0) 1 Tryd.underlying72 hi hz0 hz1 _ _ _ _ xs.length rfl rfl rfl rfl (by rw [hz2]; omega) (by unfold maxLen; omega) (Nat.le_refl _) ?_)
  intro w1 hown hgrow
  have hb1 : Below w.heap.size w w1 := (Below.refl _ w).grown hgrow (Nat.le_refl _) (fun k hk => by cases hk)
  obtain ⟨g, hgs⟩ : ∃ g, g = w.heap.size := ⟨_, rfl⟩
  rw [← hgs] at hown ⊢
  have hown1 : w1.ownsRow g 65 1 (.slice (some ⟨g, 0, none⟩) xs.length xs.length) xs.length (i16s (rowF gs.length xs.length 0)) := by
    have e : (madeCells #[Value.int .i16 0] xs.length).toList = i16s (rowF gs.length xs.length 0) := by
      rw [toList_madeCells_one, rowF_zero]; simp
    rw [← e]; simpa using hown
  clear hown hgrow
  have HG := Lib.hid hgs; clear hgs
  have HA1 := Lib.hid (AD.of_below (B := B) (gp := gp) (PT := PT) hb1 H.out.1 HGP.out); have HO1 := Lib.hid hown1
  have HS1 : Hid (ST B gp PT w1 (gs ++ pairG 2 xs ys 0)) := Lib.hid (by simpa [pairG] using H.out.below hb1)
  clear hb1 hown1
  go_wp2_with fail
  go_loopw [15] (fun y wr => ∃ k : Nat, y = .int .i64 (k : Int) ∧ k ≤ xs.length ∧ Hid (AD B gp PT w wr) ∧ Hid (ST B gp PT wr (gs ++ pairG 2 xs ys k)) ∧ Hid (wr.ownsRow g 65 1 (.slice (some ⟨g, 0, none⟩) xs.length xs.length) xs.length (i16s (rowF gs.length xs.length k)))) (fun y _ => xs.length - (intOf y).toNat)
  case atStart => exact ⟨0, rfl, Nat.zero_le _, HA1, HS1, HO1⟩
  case round =>
    obtain ⟨k, rfl, hk, HA, HS, HO⟩ := hrel
    clear HA1 HS1 HO1
    by_cases hlt : k < xs.length
    · obtain ⟨_, _, _, e, hw1, d1⟩ := (H1.out.ad HP2.out HA.out).at k hlt
      cases e
      obtain ⟨_, _, _, e, hw2, d2⟩ := (H2.out.ad HP2.out HA.out).at k (by have := HXY.out; omega)
      cases e
      obtain ⟨x, hx⟩ : ∃ x, x = xs.getD k 0 := ⟨_, rfl⟩
      obtain ⟨y, hy⟩ : ∃ y, y = ys.getD k 0 := ⟨_, rfl⟩
      rw [← hx] at d1; rw [← hy] at d2
      have T1 : decide ((k : Int) < (xs.length : Int)) = true := by simp; omega
      have i1 : (k : Int) < (xs.length : Int) := by omega
      have i2 : (k : Int) < (ys.length : Int) := by have := HXY.out; omega
      have i3 : xs.length = ys.length := HXY.out
      have HE := Lib.hid (show (gs ++ pairG 2 xs ys k) ++ [(2, x, y)] = gs ++ pairG 2 xs ys (k + 1) from by rw [pairG_succ, hx, hy, List.append_assoc])
      have HLN := Lib.hid (show (gs ++ pairG 2 xs ys k).length = gs.length + k from by rw [List.length_append, pairG_len])
      clear hx hy hw1 hw2 i3
      go_wp2_with fail
      refine (implxor_any B gp PT HP.out x y _ (by rw [HLN.out]; omega) wr HS.out).mono ?_
      rintro e w2 ⟨rfl, hs2, ha2⟩
      rw [HLN.out]
      rw [HE.out] at hs2
      have ho2 := own_ad gt_i16 HP2.out HO.out ha2
      obtain ⟨y0, hy0⟩ : ∃ y, (i16s (rowF gs.length xs.length k))[k]? = some y := ⟨_, List.getElem?_eq_getElem (by rw [List.length_map, rowF_len _ _ _ hk]; exact hlt)⟩
      have q2 : w2.cell? ⟨g, k, none⟩ = some y0 := (ho2.cellAt k (by omega)).trans hy0
      have q3 : w2.frozen? ⟨g, k, none⟩ = false := ho2.frozenAt k
      have h4 := (ho2.stored k (.int .i16 ((gs.length + k : Nat) : Int))).1
      rw [← List.map_set, rowF_set _ _ _ hlt] at h4
      have H4 := Lib.hid h4
      have H5 := Lib.hid ((HA.out.trans ha2).after (grown_putd w2 g k (.int .i16 ((gs.length + k : Nat) : Int))) (fun z hz => by have := HG.out; cases hz; omega) H.out.1 HGP.out)
      have H6 := Lib.hid (hs2.grown HP2.out (grown_putd w2 g k (.int .i16 ((gs.length + k : Nat) : Int))) (fun z hz => by
        cases hz
        obtain ⟨cr, h⟩ := own_type ho2 g rfl
        exact ⟨cr, _, h⟩))
      clear hs2 ha2 ho2 h4 hy0 d1 d2 HA HS HO HE HLN
      obtain ⟨nk, hnk⟩ : ∃ nk, nk = gs.length + k := ⟨_, rfl⟩
      rw [← hnk] at H4 H5 H6 ⊢
      clear hnk
      go_wp2_with fail
      exact ⟨⟨k + 1, by go_num, by omega, H5, H6, H4⟩, by simp [intOf]; omega⟩
    · obtain rfl : k = xs.length := by omega
      have T1 : decide ((xs.length : Int) < (xs.length : Int)) = false := by simp
      go_wp2_with fail
      go_ret
      have h := HO.out
      rw [rowF_end] at h
      exact ⟨_, rfl, HS.out, own_low h (Nat.le_of_eq HG.out.symm), HA.out⟩

set_option maxHeartbeats 4000000 in
set_option maxRecDepth 100000 in
theorem pairand_any (B gp : Nat) (PT : TypeId) (hP : PT ≠ 67) (hP2 : 65 ≠ PT) (v u : Value) (xs ys : List Int) (gs : List G3) (hl : gs.length + xs.length < 20000) (hxy : xs.length = ys.length) (w : World) (h : ST B gp PT w gs) (h1 : TL w v xs) (h2 : TL w u ys) :
    Calls Tryd.prog 129 #[v, u, .func (Fn.func 132) #[.pointer (some ⟨gp, 0, none⟩)] #[]] w fun e w' => ∃ r, e = .returned r ∧ ST B gp PT w' (gs ++ pairG 3 xs ys xs.length) ∧ w'.ownsRow w.heap.size 65 1 r xs.length (i16s (outsL gs.length xs.length)) ∧ AD B gp PT w w' := by
  have H := Lib.hid h; have H1 := Lib.hid h1; have H2 := Lib.hid h2
  have HP := Lib.hid hP; have HP2 := Lib.hid hP2
  have HGP := Lib.hid h.lt
  obtain ⟨b, off, c, rfl, hcx, hcm⟩ := h1.form
  obtain ⟨b', off', c', rfl, hcx', hcm'⟩ := h2.form
  have HXY := Lib.hid hxy
  clear h h1 h2 hP hP2 hxy hcx hcx' hcm hcm'
  obtain ⟨i0, hi, hz0, hz1, hz2⟩ := info_parts infoI16
  go_enter Tryd.func129, Tryd.ntmps129
  go_wp2_with (at_make; refine wpList_make_full _ rfl _ _ 72 rfl w.heap.size 65 i0 (.int .i16 0) 1 Tryd.underlying72 hi hz0 hz1 _ _ _ _ xs.length rfl rfl rfl rfl (by rw [hz2]; omega) (by unfold maxLen; omega) (Nat.le_refl _) ?_)
  intro w1 hown hgrow
  have hb1 : Below w.heap.size w w1 := (Below.refl _ w).grown hgrow (Nat.le_refl _) (fun k hk => by cases hk)
  obtain ⟨g, hgs⟩ : ∃ g, g = w.heap.size := ⟨_, rfl⟩
  rw [← hgs] at hown ⊢
  have hown1 : w1.ownsRow g 65 1 (.slice (some ⟨g, 0, none⟩) xs.length xs.length) xs.length (i16s (rowF gs.length xs.length 0)) := by
    have e : (madeCells #[Value.int .i16 0] xs.length).toList = i16s (rowF gs.length xs.length 0) := by
      rw [toList_madeCells_one, rowF_zero]; simp
    rw [← e]; simpa using hown
  clear hown hgrow
  have HG := Lib.hid hgs; clear hgs
  have HA1 := Lib.hid (AD.of_below (B := B) (gp := gp) (PT := PT) hb1 H.out.1 HGP.out); have HO1 := Lib.hid hown1
  have HS1 : Hid (ST B gp PT w1 (gs ++ pairG 3 xs ys 0)) := Lib.hid (by simpa [pairG] using H.out.below hb1)
  clear hb1 hown1
  go_wp2_with fail
  go_loopw [15] (fun y wr => ∃ k : Nat, y = .int .i64 (k : Int) ∧ k ≤ xs.length ∧ Hid (AD B gp PT w wr) ∧ Hid (ST B gp PT wr (gs ++ pairG 3 xs ys k)) ∧ Hid (wr.ownsRow g 65 1 (.slice (some ⟨g, 0, none⟩) xs.length xs.length) xs.length (i16s (rowF gs.length xs.length k)))) (fun y _ => xs.length - (intOf y).toNat)
  case atStart => exact ⟨0, rfl, Nat.zero_le _, HA1, HS1, HO1⟩
  case round =>
    obtain ⟨k, rfl, hk, HA, HS, HO⟩ := hrel
    clear HA1 HS1 HO1
    by_cases hlt : k < xs.length
    · obtain ⟨_, _, _, e, hw1, d1⟩ := (H1.out.ad HP2.out HA.out).at k hlt
      cases e
      obtain ⟨_, _, _, e, hw2, d2⟩ := (H2.out.ad HP2.out HA.out).at k (by have := HXY.out; omega)
      cases e
      obtain ⟨x, hx⟩ : ∃ x, x = xs.getD k 0 := ⟨_, rfl⟩
      obtain ⟨y, hy⟩ : ∃ y, y = ys.getD k 0 := ⟨_, rfl⟩
      rw [← hx] at d1; rw [← hy] at d2
      have T1 : decide ((k : Int) < (xs.length : Int)) = true := by simp; omega
      have i1 : (k : Int) < (xs.length : Int) := by omega
      have i2 : (k : Int) < (ys.length : Int) := by have := HXY.out; omega
      have i3 : xs.length = ys.length := HXY.out
      have HE := Lib.hid (show (gs ++ pairG 3 xs ys k) ++ [(3, x, y)] = gs ++ pairG 3 xs ys (k + 1) from by rw [pairG_succ, hx, hy, List.append_assoc])
      have HLN := Lib.hid (show (gs ++ pairG 3 xs ys k).length = gs.length + k from by rw [List.length_append, pairG_len])
      clear hx hy hw1 hw2 i3
      go_wp2_with fail
      refine (impland_any B gp PT HP.out x y _ (by rw [HLN.out]; omega) wr HS.out).mono ?_
      rintro e w2 ⟨rfl, hs2, ha2⟩
      rw [HLN.out]
      rw [HE.out] at hs2
      have ho2 := own_ad gt_i16 HP2.out HO.out ha2
      obtain ⟨y0, hy0⟩ : ∃ y, (i16s (rowF gs.length xs.length k))[k]? = some y := ⟨_, List.getElem?_eq_getElem (by rw [List.length_map, rowF_len _ _ _ hk]; exact hlt)⟩
      have q2 : w2.cell? ⟨g, k, none⟩ = some y0 := (ho2.cellAt k (by omega)).trans hy0
      have q3 : w2.frozen? ⟨g, k, none⟩ = false := ho2.frozenAt k
      have h4 := (ho2.stored k (.int .i16 ((gs.length + k : Nat) : Int))).1
      rw [← List.map_set, rowF_set _ _ _ hlt] at h4
      have H4 := Lib.hid h4
      have H5 := Lib.hid ((HA.out.trans ha2).after (grown_putd w2 g k (.int .i16 ((gs.length + k : Nat) : Int))) (fun z hz => by have := HG.out; cases hz; omega) H.out.1 HGP.out)
      have H6 := Lib.hid (hs2.grown HP2.out (grown_putd w2 g k (.int .i16 ((gs.length + k : Nat) : Int))) (fun z hz => by
        cases hz
        obtain ⟨cr, h⟩ := own_type ho2 g rfl
        exact ⟨cr, _, h⟩))
      clear hs2 ha2 ho2 h4 hy0 d1 d2 HA HS HO HE HLN
      obtain ⟨nk, hnk⟩ : ∃ nk, nk = gs.length + k := ⟨_, rfl⟩
      rw [← hnk] at H4 H5 H6 ⊢
      clear hnk
      go_wp2_with fail
      exact ⟨⟨k + 1, by go_num, by omega, H5, H6, H4⟩, by simp [intOf]; omega⟩
    · obtain rfl : k = xs.length := by omega
      have T1 : decide ((xs.length : Int) < (xs.length : Int)) = false := by simp
      go_wp2_with fail
      go_ret
      have h := HO.out
      rw [rowF_end] at h
      exact ⟨_, rfl, HS.out, own_low h (Nat.le_of_eq HG.out.symm), HA.out⟩

set_option maxHeartbeats 1000000 in
theorem implPlus_any (B gp : Nat) (PT : TypeId) (hP : PT ≠ 67) (hP2 : 65 ≠ PT) (v u : Value) (xs ys : List Int) (gs : List G3) (hl : gs.length + xs.length < 20000) (hxy : xs.length = ys.length) (w : World) (h : ST B gp PT w gs) (h1 : TL w v xs) (h2 : TL w u ys) :
    Calls Tryd.prog 79 #[.pointer (some ⟨gp, 0, none⟩), v, u] w fun e w' => ∃ r, e = .returned r ∧ ST B gp PT w' (gs ++ pairG 2 xs ys xs.length) ∧ w'.ownsRow w.heap.size 65 1 r xs.length (i16s (outsL gs.length xs.length)) ∧ AD B gp PT w w' := by
  go_enter Tryd.func79, Tryd.ntmps79
  go_wp2_with fail
  refine (pairxor_any B gp PT hP hP2 v u xs ys gs hl hxy w h h1 h2).mono ?_
  rintro e w2 ⟨r, rfl, hr⟩
  have HR := Lib.hid hr
  clear hr
  go_wp2_with fail
  go_ret
  exact ⟨r, rfl, HR.out⟩

end Go.Proofs.YtedcfmdgcafnmaaDoor
