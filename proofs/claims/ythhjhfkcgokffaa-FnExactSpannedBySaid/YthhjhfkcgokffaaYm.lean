/-
  Lists of words that are an answer: marked, and looked at again.
-/
import Derived.Test.YthhjhfkcgokffaaYa
namespace Go.Proofs.Ythhjhfkcgokffaa
set_option linter.unusedVariables false
set_option linter.unusedSimpArgs false
open Go.ChangeShapes Go.WideShapes Go.ChangeAt Go.RowKit

/-- only blocks from B on and below T have turned -/
structure Btw (B T : Nat) (w w' : World) : Prop where
  os : w'.os = w.os
  tape : w'.tape = w.tape
  output : w'.output = w.output
  size : w.heap.size ≤ w'.heap.size
  block : ∀ k, k < w.heap.size → (k < B ∨ T ≤ k) → w'.heap[k]? = w.heap[k]?
theorem Btw.refl (B T : Nat) (w : World) : Btw B T w w := ⟨rfl, rfl, rfl, Nat.le_refl _, fun _ _ _ => rfl⟩
theorem Btw.trans {B T : Nat} {a b c : World} (h : Btw B T a b) (h' : Btw B T b c) : Btw B T a c :=
  ⟨h'.os.trans h.os, h'.tape.trans h.tape, h'.output.trans h.output, Nat.le_trans h.size h'.size, fun k hk hb => (h'.block k (Nat.lt_of_lt_of_le hk h.size) hb).trans (h.block k hk hb)⟩
theorem Btw.below {B T B' : Nat} {w w' : World} (h : Btw B T w w') (hB : B' ≤ B) (hs : B' ≤ w.heap.size) : Below B' w w' :=
  ⟨h.os, h.tape, h.output, h.size, fun k hk => h.block k (by omega) (.inl (by omega))⟩
theorem btw_of_mk {w w' wc : World} {v : Value} {zs : List Int} {B : Nat} (h : MK w w' v zs) (hv : PO wc B v zs) : Btw B wc.heap.size w w' := by
  rcases h with rfl | ⟨hn, k, hk, hg⟩
  · exact Btw.refl _ _ _
  · have hs := hv.spot hn k hk
    exact ⟨hg.os, hg.tape, hg.output, hg.size, fun j hj hb => hg.block j hj (fun e => by
      have : j = k := Option.some.inj e
      omega)⟩
theorem PO.btw_hi {w w' : World} {B T B2 : Nat} {u : Value} {ys : List Int} (hu : PO w B2 u ys) (hm : Btw B T w w') (hT : T ≤ B2) : PO w' B2 u ys := by
  obtain ⟨A, c, rfl, h1, h2, hz, h3, h4⟩ := hu
  refine ⟨A, c, rfl, h1, h2, hz, h3, fun hn => ?_⟩
  obtain ⟨g, k', rfl, ho⟩ := h4 hn
  refine ⟨g, k', rfl, ho.1, ?_⟩
  rcases ho.2 with ⟨e, h0⟩ | ⟨g', cap, cur, e, hb, hg', q⟩
  · exact .inl ⟨e, h0⟩
  · cases e
    exact .inr ⟨g, k', cur, rfl, hb, (hm.block g (Array.getElem?_eq_some_iff.1 hg').1 (.inr (by omega))).trans hg', q⟩
theorem WO.btw_hi {w w' : World} {B T B2 T2 : Nat} {u : Value} {gs : List (List Int)} (hu : WO w B2 T2 u gs) (hm : Btw B T w w') (hT : T ≤ B2) : WO w' B2 T2 u gs := by
  obtain ⟨A, c, us, e, q1, q2, q3, hc, hr⟩ := hu
  refine ⟨A, c, us, e, q1, q2, q3, fun hn => ?_, fun i hi => ⟨(hr.1 i hi).1.btw_hi hm hT, (hr.1 i hi).2⟩, hr.2⟩
  obtain ⟨b, cur, hA, hB, hT2, hg, hcell⟩ := hc hn
  exact ⟨b, cur, hA, hB, hT2, (hm.block b (Array.getElem?_eq_some_iff.1 hg).1 (.inr (by omega))).trans hg, hcell⟩
/-- the number behind the marks of the first k words; the marks -/
def mkTo (m : Nat) (gs : List (List Int)) : Nat → Nat
  | 0 => m
  | k + 1 => mkTo m gs k + (gs.getD k []).length
def mkEnd (m : Nat) (gs : List (List Int)) : Nat := mkTo m gs gs.length
theorem mkTo_lens (m : Nat) (gs : List (List Int)) : ∀ k, mkTo m gs k + gs.length = m + lensTo gs k
  | 0 => rfl
  | k + 1 => by
    have := mkTo_lens m gs k
    show mkTo m gs k + (gs.getD k []).length + gs.length = m + (lensTo gs k + (gs.getD k []).length)
    omega
theorem mkTo_mono (m : Nat) (gs : List (List Int)) (i : Nat) : ∀ j, mkTo m gs i ≤ mkTo m gs (i + j)
  | 0 => Nat.le_refl _
  | j + 1 => Nat.le_trans (mkTo_mono m gs i j) (Nat.le_add_right _ _)
theorem mkEnd_le (m : Nat) (gs : List (List Int)) : mkEnd m gs ≤ m + total gs := by
  have := mkTo_lens m gs gs.length
  unfold mkEnd total
  omega
theorem mkTo_le (m : Nat) (gs : List (List Int)) {k : Nat} (hk : k ≤ gs.length) : mkTo m gs k ≤ m + total gs := by
  have h1 := mkTo_mono m gs k (gs.length - k)
  rw [Nat.add_sub_cancel' hk] at h1
  exact Nat.le_trans h1 (mkEnd_le m gs)
def mkW (m : Nat) (gs : List (List Int)) (i : Nat) : List Int := mark16 (mkTo m gs i) (gs.getD i []).length
def mkL (m : Nat) (gs : List (List Int)) : List (List Int) := (List.range gs.length).map (mkW m gs)
theorem mkL_len (m : Nat) (gs : List (List Int)) : (mkL m gs).length = gs.length := by unfold mkL; simp
theorem mkL_at (m : Nat) (gs : List (List Int)) {i : Nat} (hi : i < gs.length) : (mkL m gs).getD i [] = mkW m gs i := by
  unfold mkL
  simp [List.getD_eq_getElem?_getD, List.getElem?_map, List.getElem?_range hi]
/-- while it is being marked: the first k words are -/
def hfL (m : Nat) (gs : List (List Int)) (k : Nat) (i : Nat) : List Int := if i < k then mkW m gs i else gs.getD i []
theorem hfL_len (m : Nat) (gs : List (List Int)) (k i : Nat) : (hfL m gs k i).length = (gs.getD i []).length := by
  unfold hfL
  split
  · unfold mkW; rw [mark16_len]
  · rfl
theorem own_ty {w : World} {B n : Nat} {A : Option Addr} {c : Nat} {zs : List Int} (h : PO w B (.slice A n c) zs) (hn : 0 < zs.length) : ∃ g cur, A = some ⟨g, 0, none⟩ ∧ B ≤ g ∧ w.heap[g]? = some (.cells cur 39 (0, 0)) := by
  obtain ⟨A', c', e, h1, h2, hz, h3, h4⟩ := h
  cases e
  obtain ⟨g, k', rfl, ho⟩ := h4 hn
  rcases ho.2 with ⟨e, h0⟩ | ⟨g', cap, cur, e, hb, hg', q⟩
  · cases e
  · cases e
    exact ⟨g, cur, rfl, hb, hg'⟩
/-- marking one of the rows leaves the others as they are -/
theorem wr_marked {w w' : World} {B T m k : Nat} {us : Nat → Value} {gs : List (List Int)} (hk : k < gs.length)
    (h : ∀ i, i < gs.length → PO w B (us i) (hfL m gs k i) ∧ (0 < (gs.getD i []).length → ∀ q, (us i).ownBlock = some q → q < T))
    (hd : ∀ i j, i < j → j < gs.length → 0 < (gs.getD i []).length → 0 < (gs.getD j []).length → (us i).ownBlock ≠ (us j).ownBlock)
    (hp : PO w' B (us k) (mark16 (mkTo m gs k) (gs.getD k []).length)) (hm : MK w w' (us k) (gs.getD k [])) :
    ∀ i, i < gs.length → PO w' B (us i) (hfL m gs (k + 1) i) ∧ (0 < (gs.getD i []).length → ∀ q, (us i).ownBlock = some q → q < T) := by
  intro i hi
  refine ⟨?_, (h i hi).2⟩
  by_cases e : i = k
  · subst e
    unfold hfL
    rw [if_pos (by omega)]
    exact hp
  · have e1 : hfL m gs (k + 1) i = hfL m gs k i := by
      unfold hfL
      by_cases e2 : i < k
      · rw [if_pos e2, if_pos (by omega)]
      · rw [if_neg e2, if_neg (by omega)]
    rw [e1]
    rcases hm with rfl | ⟨hn, q, hq, hg⟩
    · exact (h i hi).1
    · obtain ⟨A, c, rfl', h1, h2, hz, h3, h4⟩ := (h i hi).1
      refine ⟨A, c, rfl', h1, h2, hz, h3, fun hn2 => ?_⟩
      obtain ⟨g, k', rfl, ho⟩ := h4 hn2
      refine ⟨g, k', rfl, ho.kept hg (.inr ?_)⟩
      rw [hfL_len] at hn2
      intro e3
      have e4 : (us i).ownBlock = some g := by rw [rfl']; rfl
      have e5 : q = g := by
        have e3' : (Value.slice (some ⟨g, 0, none⟩) (hfL m gs k i).length k').ownBlock = some g := rfl
        first
          | (have := e3.symm.trans e3'; exact (Option.some.inj this))
          | (have := e3.trans e3'; exact (Option.some.inj this))
          | (have := e3'.symm.trans e3; exact (Option.some.inj this).symm)
      subst e5
      rcases Nat.lt_or_gt_of_ne e with hlt | hgt
      · exact hd i k hlt hk hn2 hn (e4.trans hq.symm)
      · exact hd k i hgt hi hn hn2 (hq.trans e4.symm)
set_option maxHeartbeats 4000000 in
theorem markWordS_any (v : Value) (gs : List (List Int)) (hl : total gs ≤ 1048576) (m : Nat) (hm : m ≤ 1070000000) (B T : Nat) (w : World) (h : WO w B T v gs) :
    Calls Try.prog 46 #[v, .int .i64 (m : Int)] w fun e w' => e = .returned (.int .i64 ((mkEnd m gs : Nat) : Int)) ∧ WO w' B T v (mkL m gs) ∧ Btw B T w w' := by
  obtain ⟨A, c, us, rfl, q1, q2, q3, hc, hr⟩ := h
  have hlen : gs.length ≤ 1048576 := Nat.le_trans (total_len gs) hl
  have HQ := Lib.hid (And.intro q1 (And.intro q2 q3))
  have HD := Lib.hid hr.2
  have HC := Lib.hid hc
  have HT := Lib.hid (fun i => total_row gs i)
  have H0 : Hid (∀ i, i < gs.length → PO w B (us i) (hfL m gs 0 i) ∧ (0 < (gs.getD i []).length → ∀ q, (us i).ownBlock = some q → q < T)) := Lib.hid (fun i hi => ⟨by unfold hfL; rw [if_neg (by omega)]; exact (hr.1 i hi).1, (hr.1 i hi).2⟩)
  obtain ⟨me, hme⟩ : ∃ me, me = mkEnd m gs := ⟨_, rfl⟩
  rw [← hme]
  have HME := Lib.hid hme
  have HTY : Hid (0 < gs.length → ∃ b cur, A = some ⟨b, 0, none⟩ ∧ b < w.heap.size ∧ w.heap[b]? = some (.cells cur 25 (0, 0)) ∧ ∀ i, i < gs.length → cur[i]? = some (us i)) := Lib.hid (fun h0 => by
    obtain ⟨b, cur, e, _, _, hg, hcell⟩ := hc h0
    exact ⟨b, cur, e, (Array.getElem?_eq_some_iff.1 hg).1, hg, hcell⟩)
  clear q1 q2 q3 hc hr hme
  go_enter Try.func46, Try.ntmps46
  go_wp2_with fail
  go_loopw [5, 1] (fun y o wr => ∃ k x : Nat, y = .int .i64 (k : Int) ∧ k ≤ gs.length ∧ o = .int .i64 (x : Int) ∧ Hid (x = mkTo m gs k) ∧ Hid (∀ i, i < gs.length → PO wr B (us i) (hfL m gs k i) ∧ (0 < (gs.getD i []).length → ∀ q, (us i).ownBlock = some q → q < T)) ∧ Hid (Btw B T w wr) ∧ Hid (0 < gs.length → ∃ b cur, A = some ⟨b, 0, none⟩ ∧ b < wr.heap.size ∧ wr.heap[b]? = some (.cells cur 25 (0, 0)) ∧ w.heap[b]? = some (.cells cur 25 (0, 0)) ∧ ∀ i, i < gs.length → cur[i]? = some (us i))) (fun y _ _ => gs.length - (intOf y).toNat)
  case atStart => exact ⟨0, m, rfl, Nat.zero_le _, rfl, Lib.hid rfl, H0, Lib.hid (Btw.refl _ _ _), Lib.hid (fun h0 => by
    obtain ⟨b, cur, e, hlt, hg, hcell⟩ := HTY.out h0
    exact ⟨b, cur, e, hlt, hg, hg, hcell⟩)⟩
  case round =>
    clear H0 HTY
    obtain ⟨k, x, rfl, hk, rfl, HX, HR, HB, HTY⟩ := hrel
    by_cases hlt : k < gs.length
    · have i1 : (k : Int) < (gs.length : Int) := by omega
      obtain ⟨b, cur, rfl, hlb, hg, hg0, hcell⟩ := HTY.out (by omega)
      have qc : wr.cell? ⟨b, k, none⟩ = some (us k) := (cell_of_row _ _ _ _ _ _ hg).trans (hcell k hlt)
      have hpk := (HR.out k hlt).1
      have ehf : hfL m gs k k = gs.getD k [] := by unfold hfL; rw [if_neg (by omega)]
      rw [ehf] at hpk
      have hlk := Nat.le_trans (HT.out k hlt) hl
      have hxb : x ≤ 1073741824 := by have := mkTo_le m gs hk; have := HX.out; omega
      have HPK := Lib.hid hpk
      have hmk := markWordO_any (us k) (gs.getD k []) hlk x hxb B wr hpk
      have hstep : x + (gs.getD k []).length = mkTo m gs (k + 1) := by rw [HX.out]; rfl
      obtain ⟨y, hy⟩ : ∃ y, y = x + (gs.getD k []).length := ⟨_, rfl⟩
      rw [← hy] at hmk hstep
      obtain ⟨ux, hux⟩ : ∃ ux, ux = us k := ⟨_, rfl⟩
      rw [← hux] at qc hmk
      have HUX := Lib.hid hux
      have HMK := Lib.hid hmk
      have HST := Lib.hid hstep
      have HCE := Lib.hid hcell
      have HG := Lib.hid hg
      have HG0 := Lib.hid hg0
      clear hpk ehf hmk hstep hy hux hcell hg hg0
      go_wp2_with fail
      refine HMK.out.mono ?_
      rintro e w2 ⟨rfl, hp2, hm2⟩
      rw [HUX.out, HX.out] at hp2
      rw [HUX.out] at hm2
      have hbt : Btw B T wr w2 := by
        rcases hm2 with rfl | ⟨hn, q, hq, hgr⟩
        · exact Btw.refl _ _ _
        · have hs := HPK.out.spot hn q hq
          have ht := (HR.out k hlt).2 hn q hq
          exact ⟨hgr.os, hgr.tape, hgr.output, hgr.size, fun j hj hb => hgr.block j hj (fun e => by
            have : j = q := Option.some.inj e
            omega)⟩
      have hb2 : w2.heap[b]? = some (.cells cur 25 (0, 0)) := by
        rcases hm2 with rfl | ⟨hn, q, hq, hgr⟩
        · exact HG.out
        · refine (hgr.block b hlb (fun e => ?_)).trans HG.out
          obtain ⟨A4, c4, e4, _⟩ := id HPK.out
          have hpo := HPK.out
          rw [e4] at hpo
          obtain ⟨g, cur2, eA, _, hg2⟩ := own_ty hpo hn
          rw [e4, eA] at hq
          have e5 : g = q := by simpa [Value.ownBlock] using hq
          have e6 : b = q := Option.some.inj e
          subst e5
          subst e6
          rw [HG.out] at hg2
          exact absurd hg2 (by intro e; exact word_ne (by injection e with e; injection e))
      have H3 := Lib.hid (wr_marked hlt HR.out HD.out hp2 hm2)
      have H4 := Lib.hid (HB.out.trans hbt)
      have H5 : Hid (0 < gs.length → ∃ b' cur, some (⟨b, 0, none⟩ : Addr) = some ⟨b', 0, none⟩ ∧ b' < w2.heap.size ∧ w2.heap[b']? = some (.cells cur 25 (0, 0)) ∧ w.heap[b']? = some (.cells cur 25 (0, 0)) ∧ ∀ i, i < gs.length → cur[i]? = some (us i)) := Lib.hid (fun _ => ⟨b, cur, rfl, Nat.lt_of_lt_of_le hlb hbt.size, hb2, HG0.out, HCE.out⟩)
      clear hp2 hm2 hbt hb2 HR HB HTY
      go_wp2_with fail
      exact ⟨⟨k + 1, y, by go_num, by omega, rfl, HST, H3, H4, H5⟩, by simp [intOf]; omega⟩
    · obtain rfl : k = gs.length := by omega
      have T1 : decide ((gs.length : Int) < (gs.length : Int)) = false := by simp
      go_wp2_with fail
      go_ret
      refine ⟨by rw [HME.out, HX.out]; rfl, ⟨A, c, us, by rw [mkL_len], by rw [mkL_len]; exact HQ.out.1, HQ.out.2.1, HQ.out.2.2, fun hn => ?_, fun i hi => ?_, fun i j hij hj hp hq => ?_⟩, HB.out⟩
      · rw [mkL_len] at hn ⊢
        obtain ⟨b, cur, hA, hB, hT, hg, hcell⟩ := HC.out hn
        obtain ⟨b', cur', hA', _, hg1, hg0, hcell'⟩ := HTY.out hn
        rw [hA] at hA'
        cases hA'
        exact ⟨b, cur', hA, hB, hT, hg1, hcell'⟩
      · rw [mkL_len] at hi
        rw [mkL_at m gs hi]
        have := HR.out i hi
        unfold hfL at this
        rw [if_pos hi] at this
        refine ⟨this.1, fun hp => this.2 (by unfold mkW at hp; rw [mark16_len] at hp; exact hp)⟩
      · rw [mkL_len] at hj
        rw [mkL_at m gs (by omega)] at hp
        rw [mkL_at m gs hj] at hq
        unfold mkW at hp hq
        rw [mark16_len] at hp hq
        exact HD.out i j hij hj hp hq
set_option maxHeartbeats 4000000 in
theorem heldWordS_any (v : Value) (gs : List (List Int)) (hl : total gs ≤ 1048576) (m : Nat) (hm : m ≤ 1070000000) (w : World) (h : WS w v (mkL m gs)) :
    Calls Try.prog 47 #[v, .int .i64 (m : Int)] w fun e w' => e = .returned (.int .i64 ((mkEnd m gs : Nat) : Int)) ∧ w' = w := by
  obtain ⟨A, c, us, rfl, hc, hu⟩ := h.open
  rw [mkL_len] at hc hu ⊢
  have hlen : gs.length ≤ 1048576 := Nat.le_trans (total_len gs) hl
  have HC := Lib.hid hc
  have HU := Lib.hid hu
  have HT := Lib.hid (fun i => total_row gs i)
  obtain ⟨me, hme⟩ : ∃ me, me = mkEnd m gs := ⟨_, rfl⟩
  rw [← hme]
  have HME := Lib.hid hme
  clear hc hu h hme
  go_enter Try.func47, Try.ntmps47
  go_wp2_with fail
  go_loopw [5, 1] (fun y o wr => ∃ k x : Nat, y = .int .i64 (k : Int) ∧ k ≤ gs.length ∧ o = .int .i64 (x : Int) ∧ Hid (x = mkTo m gs k) ∧ w = wr) (fun y _ _ => gs.length - (intOf y).toNat)
  case atStart => exact ⟨0, m, rfl, Nat.zero_le _, rfl, Lib.hid rfl, rfl⟩
  case round =>
    obtain ⟨k, x, rfl, hk, rfl, HX, rfl⟩ := hrel
    by_cases hlt : k < gs.length
    · have i1 : (k : Int) < (gs.length : Int) := by omega
      obtain ⟨b, off, rfl, hlb, hcell⟩ := HC.out (by omega)
      have qc := hcell k hlt
      have hnk := HU.out k hlt
      rw [mkL_at m gs hlt] at hnk
      have hlk := Nat.le_trans (HT.out k hlt) hl
      have hxb : x ≤ 1073741824 := by have := mkTo_le m gs hk; have := HX.out; omega
      unfold mkW at hnk
      rw [← HX.out] at hnk
      have hh := heldWord_any (us k) (gs.getD k []).length hlk x hxb 0 w hnk
      have hstep : x + (gs.getD k []).length = mkTo m gs (k + 1) := by rw [HX.out]; rfl
      obtain ⟨y, hy⟩ : ∃ y, y = x + (gs.getD k []).length := ⟨_, rfl⟩
      rw [← hy] at hh hstep
      obtain ⟨ux, hux⟩ : ∃ ux, ux = us k := ⟨_, rfl⟩
      rw [← hux] at qc hh
      have HHH := Lib.hid hh
      have HST := Lib.hid hstep
      have HCL := Lib.hid hcell
      have T2 : decide ((y : Int) < 0) = false := by simp
      clear hh hstep hy hux hcell hnk
      go_wp2_with fail
      refine HHH.out.mono ?_
      rintro e w2 ⟨rfl, hw2⟩
      obtain rfl : w = w2 := hw2.symm
      go_wp2_with fail
      exact ⟨⟨k + 1, y, by go_num, by omega, rfl, HST, by first | rfl | simp⟩, by simp [intOf]; omega⟩
    · obtain rfl : k = gs.length := by omega
      have T1 : decide ((gs.length : Int) < (gs.length : Int)) = false := by simp
      go_wp2_with fail
      go_ret
      exact ⟨by rw [HME.out, HX.out]; rfl, rfl⟩
end Go.Proofs.Ythhjhfkcgokffaa
