/-
  SpannedBy of the model.
-/
import Derived.Test.YthhjhfkcgokffaaYu
namespace Go.Proofs.Ythhjhfkcgokffaa
set_option linter.unusedVariables false
set_option linter.unusedSimpArgs false
open Go.ChangeShapes Go.WideShapes Go.ChangeAt Go.RowKit Go.Shelf

/-- sorted by a key, the first i -/
def ShO {α : Type} (κ : α → Int) (d : α) (ps : List α) (i : Nat) : Prop := ∀ a b, a < b → b < i → κ (ps.getD a d) ≤ κ (ps.getD b d)
/-- sorted by a key, the first i + 1, with a hole at j for p -/
def ShI {α : Type} (κ : α → Int) (d : α) (qs : List α) (p : α) (j i : Nat) : Prop := (∀ a b, a < b → b ≤ i → a ≠ j → b ≠ j → κ (qs.getD a d) ≤ κ (qs.getD b d)) ∧ ∀ b, j < b → b ≤ i → κ p ≤ κ (qs.getD b d)
theorem getD_set_same {α : Type} {d x : α} {xs : List α} {j : Nat} (h : j < xs.length) : (xs.set j x).getD j d = x := by simp [List.getD, h]
theorem getD_set_other {α : Type} {d x : α} {xs : List α} {i j : Nat} (h : i ≠ j) : (xs.set j x).getD i d = xs.getD i d := by
  simp only [List.getD]; rw [List.getElem?_set_ne (fun e => h e.symm)]
theorem ShI.start {α : Type} {κ : α → Int} {d : α} {ps : List α} {i : Nat} (h : ShO κ d ps i) (p : α) : ShI κ d ps p i i :=
  ⟨fun a b hab hb ha hb' => h a b hab (by omega), fun b h1 h2 => absurd h1 (by omega)⟩
theorem ShI.step {α : Type} {κ : α → Int} {d : α} {qs : List α} {p : α} {k i : Nat} (hi : i < qs.length) (hk : k + 1 ≤ i) (h : ShI κ d qs p (k + 1) i) (hp : κ p < κ (qs.getD k d)) : ShI κ d (qs.set (k + 1) (qs.getD k d)) p k i := by
  refine ⟨fun a b hab hb ha hb' => ?_, fun b h1 h2 => ?_⟩
  · by_cases e : b = k + 1
    · subst e
      rw [getD_set_same (by omega), getD_set_other (by omega)]
      exact h.1 a k (by omega) (by omega) (by omega) (by omega)
    · rw [getD_set_other e]
      by_cases e2 : a = k + 1
      · subst e2
        rw [getD_set_same (by omega)]
        exact h.1 k b (by omega) (by omega) (by omega) (by omega)
      · rw [getD_set_other e2]
        exact h.1 a b hab hb e2 e
  · by_cases e : b = k + 1
    · subst e
      rw [getD_set_same (by omega)]
      omega
    · rw [getD_set_other e]
      exact h.2 b (by omega) h2
theorem ShI.finish {α : Type} {κ : α → Int} {d : α} {qs : List α} {p : α} {j i : Nat} (hi : i < qs.length) (hj : j ≤ i) (h : ShI κ d qs p j i) (hp : ∀ k, j = k + 1 → ¬ κ p < κ (qs.getD k d)) : ShO κ d (qs.set j p) (i + 1) := by
  intro a b hab hb
  by_cases e : b = j
  · subst e
    rw [getD_set_same (by omega), getD_set_other (by omega)]
    obtain ⟨k, rfl⟩ : ∃ k, b = k + 1 := ⟨b - 1, by omega⟩
    have h1 := hp k rfl
    by_cases e2 : a = k
    · subst e2; omega
    · have := h.1 a k (by omega) (by omega) (by omega) (by omega)
      omega
  · rw [getD_set_other e]
    by_cases e2 : a = j
    · subst e2
      rw [getD_set_same (by omega)]
      exact h.2 b hab (by omega)
    · rw [getD_set_other e2]
      exact h.1 a b hab (by omega) e2 e
theorem shift_perm {α : Type} {d p : α} {qs P0 : List α} {k : Nat} (hk : k + 1 < qs.length) (h : (qs.set (k + 1) p).Perm P0) : ((qs.set (k + 1) (qs.getD k d)).set k p).Perm P0 := by
  refine List.Perm.trans ?_ h
  have h1 := List.set_set_perm (show k + 1 < (qs.set (k + 1) p).length by simp; omega) (show k < (qs.set (k + 1) p).length by simp; omega)
  have e1 : (qs.set (k + 1) p)[k]'(by simp; omega) = qs.getD k d := by
    rw [List.getElem_set_ne (by omega)]; simp [List.getD, show k < qs.length from by omega]
  have e2 : (qs.set (k + 1) p)[k + 1]'(by simp; omega) = p := by simp
  rw [e1, e2, List.set_set] at h1
  exact h1
/-- a list of one word -/
theorem GW.one {w : World} {B : Nat} {u : Value} {x : List Int} (hB : B ≤ w.heap.size) (h : PO w B u x) : GW (w.alloc (.cells #[u] 25)) B (.slice (some ⟨w.heap.size, 0, none⟩) 1 1) [x] := by
  have hb : Below w.heap.size w (w.alloc (.cells #[u] 25)) := (Below.refl _ w).alloc (Nat.le_refl _) _
  refine ⟨fun _ => u, [u], ⟨rfl, .inr ⟨w.heap.size, 1, #[u], rfl, hB, heap_alloc_new w _, Nat.le_refl _, by unfold maxLen; omega, rfl, rfl⟩⟩, fun i hi => ?_, ⟨fun i hi => ?_, fun i j hij hj => ?_⟩⟩
  · have : i = 0 := by simp at hi; omega
    subst this; rfl
  · have : i = 0 := by simp at hi; omega
    subst this
    refine ⟨h.below hb, fun hp k hk => ?_⟩
    have := (h.spot hp k hk).2
    rw [World.size_alloc]; omega
  · simp at hj; omega
def pd0 : Value × List Int := (.nilFunc, [])
theorem sort_store {wz W : World} {B0 g m c : Nat} {qs : List (Value × List Int)} (p : Value × List Int) {j : Nat} (hj : j < m) (hq : qs.length = m) (ho : W.ownsRow B0 25 1 (.slice (some ⟨g, 0, none⟩) m c) m (qs.map (·.1))) (hg : GBx wz W g) :
    (W.setCell ⟨g, j, none⟩ p.1).ownsRow B0 25 1 (.slice (some ⟨g, 0, none⟩) m c) m ((qs.set j p).map (·.1)) ∧ GBx wz (W.setCell ⟨g, j, none⟩ p.1) g ∧ W.cell? ⟨g, j, none⟩ = some (qs.getD j pd0).1 ∧ W.frozen? ⟨g, j, none⟩ = false := by
  have h := ho.stored j p.1
  refine ⟨by rw [List.map_set]; exact h.1, hg.trans (GBx.of h.2), ?_, ho.frozenAt j⟩
  rw [ho.cellAt j (by omega)]
  simp [List.getD, show j < qs.length from by omega]
theorem mem_getD {α : Type} {d : α} {ps P0 : List α} (h : ps.Perm P0) {i : Nat} (hi : i < ps.length) : ps.getD i d ∈ P0 := by
  refine (h.mem_iff).1 ?_
  have e : ps.getD i d = ps[i] := by simp [List.getD, hi]
  rw [e]; exact List.getElem_mem hi
def kyP (N : Nat) (p : Value × List Int) : Int := plI (N : Int) p.2 p.2.length
theorem sho_srt {N l m : Nat} (hN : 0 < N) {ps P0 : List (Value × List Int)} (hp : ps.Perm P0) (hm : ps.length = m) (hw : ∀ p ∈ P0, BWd (N : Int) l p.2) (h : ShO (kyP N) pd0 ps m) : SrtL (ps.map (·.2)) := by
  intro i j hij hj
  rw [List.length_map] at hj
  have e : ∀ k, k < ps.length → (ps.map (·.2)).getD k [] = (ps.getD k pd0).2 := fun k hk => by simp [List.getD, hk]
  rw [e i (by omega), e j hj]
  have h1 := h i j hij (by omega)
  rw [BWd.cmp (by omega) (hw _ (mem_getD hp hj)) (hw _ (mem_getD hp (by omega)))]
  unfold kyP at h1
  omega
set_option maxHeartbeats 8000000 in
set_option maxRecDepth 100000 in
theorem spec_SpannedBy (n : Int) (v : Value) (gs : List (List Int)) (hb : -9223372036854775808 ≤ n ∧ n ≤ 9223372036854775807) (hn : gs.length ≤ 1048576) (hm : ∀ i, i < gs.length → (gs.getD i []).length ≤ 1048576) (w : World) (h : WS w v gs) :
    Calls Try.prog 51 #[.int .i64 n, v] w fun e w' => ∃ r, e = .returned (.tuple #[r, .int .i64 (spC n gs)]) ∧ WO w' w.heap.size w'.heap.size r (spA n gs) ∧ Below w.heap.size w w' := by
  have HWS := Lib.hid h
  obtain ⟨A, c, us, rfl, hc, hu⟩ := h.open
  have HM := Lib.hid hm
  have HB := Lib.hid hb
  have HC := Lib.hid hc
  have HU := Lib.hid hu
  clear h hc hu hm hb
  by_cases h0 : lsC n gs [] = 0
  case neg =>
    obtain ⟨cd, hcd⟩ : ∃ cd, cd = lsC n gs [] := ⟨_, rfl⟩
    have e1 : spC n gs = lsC n gs [] := by unfold spC; rw [if_neg h0]
    have e2 : spA n gs = [] := by unfold spA; rw [if_neg h0]
    rw [e1, e2, ← hcd]
    rw [← hcd] at h0
    have HCD := Lib.hid hcd
    have T1 : (cd != 0) = true := by rw [bne_iff_ne]; exact h0
    clear hcd h0 e1 e2
    go_enter Try.func51, Try.ntmps51
    go_wp2_with fail
    refine (l06Listed_any n _ gs hn HM.out HB.out _ HWS.out).mono ?_
    rintro e w1 ⟨rfl, m0, rfl⟩
    rw [← HCD.out]
    go_wp2_with fail
    go_ret2
    exact ⟨_, rfl, ((GW.made (w.drewN m0)).lower (Nat.le_refl w.heap.size)).wo, (bdrewN (Below.refl _ w) m0).alloc (Nat.le_refl _) _⟩
  obtain ⟨hba, hws, h300⟩ := lsC_ok h0
  rw [List.append_nil] at hws
  have H0 := Lib.hid h0
  by_cases hg0 : gs.length = 0
  case pos =>
    have e1 : spC n gs = 0 := by unfold spC; rw [if_pos h0, if_pos hg0]
    have e2 : spA n gs = [] := by unfold spA; rw [if_pos h0, if_pos hg0]
    have T1 : ((gs.length : Int) == 0) = true := by rw [hg0]; rfl
    rw [e1, e2]
    clear h0 hg0 e1 e2 hws
    go_enter Try.func51, Try.ntmps51
    go_wp2_with fail
    refine (l06Listed_any n _ gs hn HM.out HB.out _ HWS.out).mono ?_
    rintro e w1 ⟨rfl, m0, rfl⟩
    rw [H0.out]
    go_wp2_with fail
    go_ret2
    exact ⟨_, rfl, ((GW.made (w.drewN m0)).lower (Nat.le_refl w.heap.size)).wo, (bdrewN (Below.refl _ w) m0).alloc (Nat.le_refl _) _⟩
  obtain ⟨i0, hi, hz0, hz1, hz2⟩ := info_parts info25
  have T0 : ((gs.length : Int) == 0) = false := by rw [beq_eq_false_iff_ne]; omega
  have HW := Lib.hid hws
  obtain ⟨N, hN, hN2, hNp⟩ : ∃ N : Nat, n = (N : Int) ∧ N ≤ 256 ∧ 0 < N := by
    rcases baB_cases hba with e | e | e | e
    · exact ⟨2, e, by omega, by omega⟩
    · exact ⟨4, e, by omega, by omega⟩
    · exact ⟨16, e, by omega, by omega⟩
    · exact ⟨256, e, by omega, by omega⟩
  subst hN
  have HBA := Lib.hid hba
  obtain ⟨l, hl⟩ : ∃ l, l = (gs.getD 0 []).length := ⟨_, rfl⟩
  have hl7 : 1 ≤ l ∧ l ≤ 7 := by rw [hl]; exact wdB_len (wsB_at hws 0 (by omega)).1
  have HLL : Hid (∀ i, i < gs.length → (gs.getD i []).length = l) := Lib.hid (fun i hi => by rw [hl]; exact (wsB_at hws i hi).2)
  have HGB : Hid (∀ i, i < gs.length → BWd (N : Int) l (gs.getD i [])) := Lib.hid (fun i hi => by
    have := BWd.of_valid (wsB_at hws i hi).1 (inU_of (HU.out i hi))
    rw [HLL.out i hi] at this
    exact this)
  have HST := Lib.hid (fun k sp hk h => spT_ok (n := N) HBA.out (gs := gs) (l := l) hl.symm HGB.out k sp hk h)
  obtain ⟨cd, hcd⟩ : ∃ cd, cd = spC (N : Int) gs := ⟨_, rfl⟩
  obtain ⟨an, han⟩ : ∃ an, an = spA (N : Int) gs := ⟨_, rfl⟩
  rw [← hcd, ← han]
  have HGO : Hid (∀ sp, spT N gs gs.length = some sp → cd = 0 ∧ an = stS sp) := Lib.hid (fun sp h => by
    rw [hcd, han]; unfold spC spA
    rw [if_pos h0, if_pos h0, if_neg hg0, if_neg hg0]
    show (match spT N gs gs.length with | none => _ | some _ => _) = _ ∧ (match spT N gs gs.length with | none => _ | some sp => _) = _
    rw [h]; exact ⟨rfl, rfl⟩)
  have HNO : Hid (∀ k, k ≤ gs.length → spT N gs k = none → cd = 7 ∧ an = []) := Lib.hid (fun k hk h => by
    have h2 := spT_none h (gs.length - k)
    rw [show k + (gs.length - k) = gs.length from by omega] at h2
    rw [hcd, han]; unfold spC spA
    rw [if_pos h0, if_pos h0, if_neg hg0, if_neg hg0]
    show (match spT N gs gs.length with | none => _ | some _ => _) = _ ∧ (match spT N gs gs.length with | none => _ | some sp => _) = _
    rw [h2]; exact ⟨rfl, rfl⟩)
  have HS0 : Hid (spT N gs 0 = some [tab l fun _ => 0]) := Lib.hid (by rw [hl]; rfl)
  have hcell0 := HC.out (by omega)
  obtain ⟨b, off, rfl, hlb, hcell⟩ := hcell0
  have HCL := Lib.hid hcell
  have q0 := hcell 0 (by omega)
  rw [Nat.add_zero] at q0
  obtain ⟨A0, c0, e0⟩ := (HU.out 0 (by omega)).form
  rw [e0, ← hl] at q0
  have ig : (0 : Int) < (gs.length : Int) := by omega
  obtain ⟨B0, hB0⟩ : ∃ B0, B0 = w.heap.size := ⟨_, rfl⟩
  have HB0 := Lib.hid hB0
  have hng : 0 < gs.length := by omega
  clear h0 hws hba hcd han hl hcell e0 hg0
  rw [← hB0]
  have hlb' : b < B0 := by rw [hB0]; exact hlb
  clear hB0
  go_enter Try.func51, Try.ntmps51
  go_wp2_with fail
  refine (l06Listed_any _ _ gs hn HM.out HB.out _ HWS.out).mono ?_
  rintro e w1 ⟨rfl, m0, hw1⟩
  have HB1 : Hid (Below B0 w w1) := Lib.hid (by rw [hw1]; exact bdrewN (Below.refl _ w) m0)
  have q1 : w1.cell? ⟨b, off, none⟩ = some (.slice A0 l c0) := by rw [hw1]; exact q0
  have hs1 : B0 ≤ w1.heap.size := by rw [hw1, HB0.out]; exact Nat.le_refl _
  clear hw1 q0
  rw [H0.out]
  go_wp2_with (at_make; refine wpList_make_full _ rfl _ _ 25 rfl w1.heap.size 39 i0 (.int .u16 0) 1 Try.underlying25 hi hz0 hz1 _ _ _ _ l rfl rfl rfl rfl (by rw [hz2]; omega) (by unfold maxLen; omega) (Nat.le_refl _) ?_)
  intro w2 hown hgrow
  rw [made_tab] at hown
  have hpo := (RW.of_own hown).po (tab_in fun i _ => ⟨Int.le_refl 0, by decide⟩) hs1 (by rw [tab_len]; unfold maxLen; omega)
  rw [tab_len] at hpo
  have hb2 : Below B0 w1 w2 := (Below.refl _ w1).grown hgrow hs1 (fun k hk => by cases hk)
  have hg1 := GW.one (B := B0) (Nat.le_trans hs1 hgrow.size) hpo
  have hb3 : Below B0 w (w2.alloc (.cells #[.slice (some ⟨w1.heap.size, 0, none⟩) l l] 25)) := (HB1.out.trans hb2).alloc (Nat.le_trans hs1 hgrow.size) _
  have HG0 := Lib.hid hg1
  have HBB0 := Lib.hid hb3
  have HSZ : Hid (B0 < (w2.alloc (.cells #[.slice (some ⟨w1.heap.size, 0, none⟩) l l] 25)).heap.size) := Lib.hid (by have := hgrow.size; rw [World.size_alloc]; omega)
  clear hown hgrow hpo hb2 hg1 hb3 q1
  go_wp2_with fail
  go_loopw [8, 7] (fun y s wr => ∃ (i : Nat) (sp : List (List Int)), y = .int .i64 (i : Int) ∧ i ≤ gs.length ∧ Hid (spT N gs i = some sp) ∧ Hid (GW wr B0 s sp) ∧ Hid (Below B0 w wr) ∧ Hid (B0 < wr.heap.size)) (fun y _ _ => gs.length - (intOf y).toNat)
  case atStart => exact ⟨0, _, rfl, Nat.zero_le _, HS0, HG0, HBB0, HSZ⟩
  case round =>
    clear HG0 HBB0 HSZ HS0
    obtain ⟨i, sp, rfl, hi2, HSP, HG, HBW, HS⟩ := hrel
    obtain ⟨A1, c1, rfl⟩ := HG.out.form
    by_cases hlt : i < gs.length
    · have i1 : (i : Int) < (gs.length : Int) := by omega
      have hok := HST.out i sp hi2 HSP.out
      have q1 : wr.cell? ⟨b, off + i, none⟩ = some (us i) := (HBW.out.cell (p := ⟨b, off + i, none⟩) hlb').trans (HCL.out i hlt)
      have hnx := (HU.out i hlt).below (HBW.out.mono (Nat.le_of_eq HB0.out.symm))
      have hxl := HLL.out i hlt
      have hsl : ∀ j, j < sp.length → (sp.getD j []).length = l := fun j hj => by
        have e : sp.getD j [] = sp[j] := by simp [List.getD, hj]
        rw [e]; exact (hok.2.2 _ (List.getElem_mem hj)).1
      obtain ⟨x, hx⟩ : ∃ x, x = gs.getD i [] := ⟨_, rfl⟩
      have HIN := Lib.hid (fun hm => spT_in (n := N) (gs := gs) (k := i) HSP.out hm)
      have HMY := Lib.hid (fun hm h3 => spT_many (n := N) (gs := gs) (k := i) HSP.out hm h3)
      have HMO := Lib.hid (fun hm h3 => spT_more (n := N) (gs := gs) (k := i) HSP.out hm h3)
      rw [← hx] at HIN HMY HMO hnx hxl
      obtain ⟨ux, hux⟩ : ∃ u, u = us i := ⟨_, rfl⟩
      rw [← hux] at q1 hnx
      obtain ⟨Ax, cx, eux⟩ := hnx.form
      rw [hxl] at eux
      clear hux
      subst eux
      have hhs := l06Has_any _ (.slice Ax l cx) sp x (by omega) (fun j hj => by rw [hsl j hj]; omega) (by omega) wr HG.out.wo.ws hnx
      obtain ⟨mv, hmv⟩ : ∃ mv, mv = memB sp x := ⟨_, rfl⟩
      rw [← hmv] at hhs HIN HMY HMO
      have HHS := Lib.hid hhs
      have HNX := Lib.hid hnx
      have HSL := Lib.hid hsl
      obtain ⟨hok1, hok2, _⟩ := hok
      clear hhs hnx hsl hx hmv
      cases mv with
      | true =>
        go_wp2_with fail
        refine HHS.out.mono ?_
        rintro e w4 ⟨rfl, m4, rfl⟩
        have HG4 := Lib.hid (HG.out.below (bdrewN (Below.refl _ wr) m4))
        have HB4 := Lib.hid (bdrewN HBW.out m4)
        have HS4 : Hid (B0 < (wr.drewN m4).heap.size) := Lib.hid HS.out
        have HIN2 := Lib.hid (HIN.out (by first | rfl | trivial))
        go_wp2_with fail
        exact ⟨⟨i + 1, sp, by go_num, by omega, HIN2, HG4, HB4, HS4⟩, by simp [intOf]; omega⟩
      | false =>
        by_cases h3 : 300 < sp.length * N
        · have HNO2 := HNO.out (i + 1) (by omega) (HMY.out (by first | rfl | trivial) h3)
          obtain ⟨rfl, rfl⟩ := HNO2
          have HWI := Lib.hid (fun (W : World) => l06Wider_many N (.slice A1 sp.length c1) (.slice Ax l cx) sp hok2 hN2 h3 W ⟨A1, c1, rfl⟩ ⟨Ax, _, cx, rfl⟩)
          clear h3
          go_wp2_with fail
          refine HHS.out.mono ?_
          rintro e w4 ⟨rfl, m4, rfl⟩
          have HB4 := Lib.hid (bdrewN HBW.out m4)
          have q4 : (wr.drewN m4).cell? ⟨b, off + i, none⟩ = some (.slice Ax l cx) := q1
          go_wp2_with fail
          refine (HWI.out _).mono ?_
          rintro e w5 ⟨r5, rfl, hg5, hb5⟩
          obtain ⟨A5, c5, rfl⟩ := hg5.form
          have HB5 : Hid (Below B0 w w5) := Lib.hid (HB4.out.trans (hb5.mono (by have := HS.out; show B0 ≤ wr.heap.size; omega)))
          have HS5 : Hid (B0 ≤ w5.heap.size) := Lib.hid (by have := HS.out; have := hb5.size; have : wr.heap.size ≤ w5.heap.size := this; omega)
          clear hg5 hb5
          go_wp2_with fail
          go_ret2
          exact ⟨_, rfl, ((GW.made w5).lower HS5.out).wo, HB5.out.alloc HS5.out _⟩
        · have HMO2 := Lib.hid (HMO.out (by first | rfl | trivial) h3)
          have HWI := Lib.hid (fun (W : World) (hv : WS W (.slice A1 sp.length c1) sp) (hu : NS W (.slice Ax l cx) x) => l06Wider_any N (.slice A1 sp.length c1) (.slice Ax l cx) sp x hok2 hN2 h3 (by omega) (fun j hj => by rw [HSL.out j hj, hxl]) W hv hu)
          have hgl : (grP sp x N).length = sp.length * N := grP_len sp x N
          have hgp : 0 < sp.length * N := Nat.mul_pos hok1 hNp
          obtain ⟨sp2, hsp2⟩ : ∃ sp2, sp2 = grP sp x N := ⟨_, rfl⟩
          rw [← hsp2] at HMO2 HWI hgl
          have T5 : ((sp2.length : Int) == 0) = false := by rw [beq_eq_false_iff_ne]; omega
          clear h3 hsp2 hgl hgp
          go_wp2_with fail
          refine HHS.out.mono ?_
          rintro e w4 ⟨rfl, m4, rfl⟩
          have HB4 := Lib.hid (bdrewN HBW.out m4)
          have q4 : (wr.drewN m4).cell? ⟨b, off + i, none⟩ = some (.slice Ax l cx) := q1
          have HWS4 := Lib.hid ((HG.out.wo.ws).below (bdrewN (Below.refl _ wr) m4))
          have HNX4 := Lib.hid (HNX.out.below (bdrewN (Below.refl _ wr) m4))
          go_wp2_with fail
          refine (HWI.out _ HWS4.out HNX4.out).mono ?_
          rintro e w5 ⟨r5, rfl, hg5, hb5⟩
          obtain ⟨A5, c5, rfl⟩ := hg5.form
          have HB5 : Hid (Below B0 w w5) := Lib.hid (HB4.out.trans (hb5.mono (by have := HS.out; show B0 ≤ wr.heap.size; omega)))
          have HS5 : Hid (B0 < w5.heap.size) := Lib.hid (by have := HS.out; have := hb5.size; have : wr.heap.size ≤ w5.heap.size := this; omega)
          have HG5 : Hid (GW w5 B0 (.slice A5 sp2.length c5) sp2) := Lib.hid (hg5.lower (by have := HS.out; show B0 ≤ wr.heap.size; omega))
          clear hg5 hb5
          go_wp2_with fail
          exact ⟨⟨i + 1, sp2, by go_num, by omega, HMO2, HG5, HB5, HS5⟩, by simp [intOf]; omega⟩
    · obtain rfl : i = gs.length := by omega
      have T6 : decide ((gs.length : Int) < (gs.length : Int)) = false := by simp
      obtain ⟨rfl, rfl⟩ := HGO.out sp HSP.out
      have hok := HST.out _ sp hi2 HSP.out
      obtain ⟨hok1, hok2, hok3⟩ := hok
      obtain ⟨us2, vs, ho, hv, hr⟩ := HG.out
      obtain ⟨A3, c3, e3, _, h3⟩ := own_form ho
      obtain ⟨g, eg, hgB, hgl⟩ := h3 hok1
      injection e3 with ea _ ec
      rw [← ea] at eg
      subst eg
      clear ea ec h3 HSP
      obtain ⟨m, hm⟩ : ∃ m, m = sp.length := ⟨_, rfl⟩
      rw [← hm] at ho hr hok1 hok2
      rw [← hm]
      have hvs : vs.length = m := by have := ho.1; omega
      obtain ⟨P0, hP0⟩ : ∃ P0, P0 = vs.zip sp := ⟨_, rfl⟩
      have hP0l : P0.length = m := by rw [hP0, List.length_zip, hvs, ← hm, Nat.min_self]
      have hP1 : P0.map (·.1) = vs := by rw [hP0]; exact List.map_fst_zip (by omega)
      have hP2 : P0.map (·.2) = sp := by rw [hP0]; exact List.map_snd_zip (by omega)
      have hty := own_tyw ho g rfl
      have HFN : Hid (∀ W, GBx wr W g → ∀ p ∈ P0, (∃ A c, p.1 = .slice A l c) ∧ NS W p.1 p.2 ∧ BWd (N : Int) l p.2) := Lib.hid (fun W hW p hp => by
        obtain ⟨k, hk, ek⟩ := List.mem_iff_getElem.1 hp
        have hkm : k < m := by omega
        have e1 : p.1 = us2 k := by
          have h1 : (P0.map (·.1))[k]? = some p.1 := by rw [List.getElem?_map, List.getElem?_eq_getElem hk, ek]; rfl
          rw [hP1, hv k (by omega)] at h1
          exact (Option.some.inj h1).symm
        have e2 : p.2 = sp.getD k [] := by
          have h1 : (P0.map (·.2))[k]? = some p.2 := by rw [List.getElem?_map, List.getElem?_eq_getElem hk, ek]; rfl
          rw [hP2] at h1
          simp [List.getD, h1]
        have h2 := (hr.1 k hkm).1
        rw [← e1, ← e2] at h2
        have h4 : BWd (N : Int) l p.2 := by
          rw [e2, show sp.getD k [] = sp[k] from by simp [List.getD, show k < sp.length from by omega]]
          exact hok3 _ (List.getElem_mem _)
        have h5 := (h2.gbx hW hty).ns
        obtain ⟨Ak, ck, e5⟩ := h5.form
        rw [h4.1] at e5
        exact ⟨⟨Ak, ck, e5⟩, h5, h4⟩)
      have HFIN : Hid (∀ (W : World) (ps : List (Value × List Int)), ps.Perm P0 → W.ownsRow B0 25 1 (.slice (some ⟨g, 0, none⟩) m c1) m (ps.map (·.1)) → GBx wr W g → ShO (kyP N) pd0 ps m → WO W B0 W.heap.size (.slice (some ⟨g, 0, none⟩) m c1) (stS sp)) := Lib.hid (fun W ps h1 h2 h3 h4 => by
        have h5 := GW.perm (gs := sp) (us := us2) (vs := vs) hm.symm ho (fun i hi => hv i (by omega)) hr (ps := ps) (by rw [← hP0]; exact h1) h2 h3
        have h6 := sho_srt (l := l) hNp h1 (by rw [h1.length_eq, hP0l]) (fun p hp => (HFN.out wr (GBx.refl _ _) p hp).2.2) h4
        have h7 : ps.map (·.2) = stS sp := stS_one (by rw [← hP2]; exact h1.map _) h6
        rw [h7] at h5
        exact h5.wo)
      have HO0 : Hid (wr.ownsRow B0 25 1 (.slice (some ⟨g, 0, none⟩) m c1) m (P0.map (·.1))) := Lib.hid (by rw [hP1]; exact ho)
      have HSH : Hid (ShO (kyP N) pd0 P0 1) := Lib.hid (fun a b h1 h2 => absurd h1 (by omega))
      obtain ⟨wz, hwz⟩ : ∃ wz, wz = wr := ⟨_, rfl⟩
      rw [← hwz] at HFN HFIN
      have HG0 : Hid (GBx wz wr g) := Lib.hid (by rw [hwz]; exact GBx.refl wr g)
      have HRF := Lib.hid (List.Perm.refl P0)
      clear ho hv hr hok3 hvs hP1 hP2 hP0 hty HG HS hwz
      clear hm
      go_wp2_with fail
      go_loopw [9] (fun y W => ∃ (i : Nat) (ps : List (Value × List Int)), y = .int .i64 (i : Int) ∧ 1 ≤ i ∧ i ≤ m ∧ Hid (ps.Perm P0) ∧ Hid (W.ownsRow B0 25 1 (.slice (some ⟨g, 0, none⟩) m c1) m (ps.map (·.1))) ∧ Hid (GBx wz W g) ∧ Hid (ShO (kyP N) pd0 ps i) ∧ Hid (Below B0 w W)) (fun y _ => m - (intOf y).toNat)
      case atStart => exact ⟨1, P0, rfl, Nat.le_refl _, hok1, HRF, HO0, HG0, HSH, HBW⟩
      case round =>
        clear HO0 HG0 HSH HBW HRF
        obtain ⟨i, ps, rfl, hi1, him, HPE, HO, HGB2, HSH, HBW⟩ := hrel
        have hpl : ps.length = m := by rw [HPE.out.length_eq, hP0l]
        by_cases hlt : i < m
        · have i1 : (i : Int) < (m : Int) := by omega
          obtain ⟨p, hp⟩ : ∃ p, p = ps.getD i pd0 := ⟨_, rfl⟩
          have hpm : p ∈ P0 := by rw [hp]; exact mem_getD HPE.out (by omega)
          obtain ⟨⟨Ap, cp, ep⟩, hpn, hpw⟩ := HFN.out _ HGB2.out p hpm
          have q1 := (sort_store p hlt hpl HO.out HGB2.out).2.2.1
          rw [← hp, ep] at q1
          have HS1 : Hid (ShI (kyP N) pd0 ps p i i) := Lib.hid (ShI.start HSH.out p)
          have HP1 : Hid ((ps.set i p).Perm P0) := Lib.hid (by
            rw [hp, show ps.getD i pd0 = ps[i]'(by omega) from by simp [List.getD, show i < ps.length from by omega], List.set_getElem_self]; exact HPE.out)
          have HPW := Lib.hid hpw
          have HPM := Lib.hid hpm
          have HEP := Lib.hid ep
          clear hp hpn hpw hpm ep
          go_wp2_with fail
          go_loopw [11] (fun y W => ∃ (j : Nat) (qs : List (Value × List Int)), y = .int .i64 (j : Int) ∧ j ≤ i ∧ qs.length = m ∧ Hid ((qs.set j p).Perm P0) ∧ Hid (W.ownsRow B0 25 1 (.slice (some ⟨g, 0, none⟩) m c1) m (qs.map (·.1))) ∧ Hid (GBx wz W g) ∧ Hid (ShI (kyP N) pd0 qs p j i) ∧ Hid (Below B0 w W)) (fun y _ => (intOf y).toNat)
          case atStart => exact ⟨i, ps, rfl, Nat.le_refl _, hpl, HP1, HO, HGB2, HS1, HBW⟩
          case round =>
            clear HS1 HP1 HO HGB2 HSH HBW HPE q1 hpl
            obtain ⟨j, qs, rfl, hji, hql, HPE, HO, HGB2, HSI, HBW⟩ := hrel
            have hst := sort_store p (show j < m by omega) hql HO.out HGB2.out
            have hbs := HBW.out.setCell (p := ⟨g, j, none⟩) hgB p.1
            rw [HEP.out] at hst hbs
            have q1 := hst.2.2.1
            have q2 := hst.2.2.2
            have HST1 := Lib.hid hst.1
            have HST2 := Lib.hid hst.2.1
            have HBS := Lib.hid hbs
            clear hst hbs
            have i3 : (j : Int) < (m : Int) := by omega
            rcases Nat.eq_zero_or_pos j with hj0 | hj0
            · subst hj0
              have HSF := Lib.hid (ShI.finish (by omega) hji HSI.out (fun k e => absurd e (by omega)))
              obtain ⟨y0, hy0⟩ : ∃ y0, y0 = (qs.getD 0 pd0).1 := ⟨_, rfl⟩
              rw [← hy0] at q1
              clear hy0 HSI HO HGB2
              go_wp2_with fail
              go_quiet (fail)
              go_wp2_with fail
              exact ⟨⟨i + 1, qs.set 0 p, by go_num, by omega, by omega, HPE, Lib.hid HST1.out, Lib.hid HST2.out, HSF, Lib.hid (bdrewN HBS.out _)⟩, by simp [intOf]; omega⟩
            · obtain ⟨k, rfl⟩ : ∃ k, j = k + 1 := ⟨j - 1, by omega⟩
              obtain ⟨q, hq⟩ : ∃ q, q = qs.getD k pd0 := ⟨_, rfl⟩
              have hqm : q ∈ P0 := by
                have := mem_getD (d := pd0) HPE.out (i := k) (by simp; omega)
                rwa [getD_set_other (by omega), ← hq] at this
              obtain ⟨⟨Aq, cq, eq⟩, hqn, hqw⟩ := HFN.out wr HGB2.out q hqm
              have hpn := (HFN.out wr HGB2.out p HPM.out).2.1
              rw [HEP.out] at hpn
              rw [eq] at hqn
              have q3 := (sort_store p (show k < m by omega) hql HO.out HGB2.out).2.2.1
              rw [← hq, eq] at q3
              have he1 : ∀ y, Calls Try.prog 87 #[.int .i64 (N : Int), .slice Ap l cp] (wr.drewN y) fun e w'' => e = .returned (.int .i64 (kyP N p)) ∧ ∃ n, w'' = wr.drewN n := fun y => (l06Place_any (N : Int) HBA.out _ p.2 (HPW.out.valid hl7.1 hl7.2) (wr.drewN y) (hpn.below (bdrewN (Below.refl _ wr) y))).mono (by rintro e w' ⟨rfl, rfl⟩; exact ⟨rfl, y, rfl⟩)
              have he2 : ∀ y, Calls Try.prog 87 #[.int .i64 (N : Int), .slice Aq l cq] (wr.drewN y) fun e w'' => e = .returned (.int .i64 (kyP N q)) ∧ ∃ n, w'' = wr.drewN n := fun y => (l06Place_any (N : Int) HBA.out _ q.2 (hqw.valid hl7.1 hl7.2) (wr.drewN y) (hqn.below (bdrewN (Below.refl _ wr) y))).mono (by rintro e w' ⟨rfl, rfl⟩; exact ⟨rfl, y, rfl⟩)
              obtain ⟨kp, hkp⟩ : ∃ kp, kp = kyP N p := ⟨_, rfl⟩
              obtain ⟨kq, hkq⟩ : ∃ kq, kq = kyP N q := ⟨_, rfl⟩
              rw [← hkp] at he1
              rw [← hkq] at he2
              have HE1 := Lib.hid he1
              have HE2 := Lib.hid he2
              have T8 : decide ((0 : Int) < ((k + 1 : Nat) : Int)) = true := by rw [decide_eq_true_iff]; omega
              obtain ⟨y0, hy0⟩ : ∃ y0, y0 = (qs.getD (k + 1) pd0).1 := ⟨_, rfl⟩
              rw [← hy0] at q1
              clear he1 he2 hy0 hqn hqw hpn hqm
              by_cases hcmp : kp < kq
              · have T9 : decide (kp < kq) = true := decide_eq_true hcmp
                have hst := sort_store q (show k + 1 < m by omega) hql HO.out HGB2.out
                have hbs := HBW.out.setCell (p := ⟨g, k + 1, none⟩) hgB q.1
                rw [eq] at hst hbs
                have HST3 := Lib.hid hst.1
                have HST4 := Lib.hid hst.2.1
                have HBS2 := Lib.hid hbs
                have HSI2 := Lib.hid (ShI.step (by omega) hji HSI.out (by rw [← hq, ← hkp, ← hkq]; exact hcmp))
                rw [← hq] at HSI2
                have HPE2 := Lib.hid (shift_perm (d := pd0) (by omega) HPE.out)
                rw [← hq] at HPE2
                clear hst hbs HSI HO HGB2 HST1 HST2 HBS hcmp hq hkp hkq eq
                go_wp2_with fail
                go_quiet ((first | (with_reducible exact HE1.out _) | (with_reducible exact HE2.out _)))
                go_wp2_with fail
                exact ⟨⟨k, qs.set (k + 1) q, by go_num, by omega, by simp [hql], HPE2, Lib.hid HST3.out, Lib.hid HST4.out, HSI2, Lib.hid (bdrewN HBS2.out _)⟩, by simp [intOf]⟩
              · have T9 : decide (kp < kq) = false := decide_eq_false hcmp
                have HSF := Lib.hid (ShI.finish (p := p) (by omega) hji HSI.out (fun k' e => by
                  obtain rfl : k = k' := by omega
                  rw [← hq, ← hkp, ← hkq]; exact hcmp))
                clear HSI HO HGB2 hcmp hq hkp hkq eq
                go_wp2_with fail
                go_quiet ((first | (with_reducible exact HE1.out _) | (with_reducible exact HE2.out _)))
                go_wp2_with fail
                exact ⟨⟨i + 1, qs.set (k + 1) p, by go_num, by omega, by omega, HPE, Lib.hid HST1.out, Lib.hid HST2.out, HSF, Lib.hid (bdrewN HBS.out _)⟩, by simp [intOf]; omega⟩
        · obtain rfl : i = m := by omega
          have T7 : decide ((i : Int) < (i : Int)) = false := by simp
          go_wp2_with fail
          go_ret2
          exact ⟨_, rfl, HFIN.out _ ps HPE.out HO.out HGB2.out HSH.out, HBW.out⟩
end Go.Proofs.Ythhjhfkcgokffaa
