/-
  Polynomials read from their texts: of the model and of the program.
-/
import Derived.Test.YtnpadkkjaeblfaaDoorPtD
import Derived.Test.YtnpadkkjaeblfaaDoorReads
namespace Go.Proofs.YtnpadkkjaeblfaaDoor
set_option linter.unusedVariables false
set_option linter.unusedSimpArgs false
open Go.ChangeShapes Go.WideShapes Go.ChangeAt Go.RowKit

theorem join_spl (b : UInt8) : ∀ l, Lib.join (spl b l) [b] = l := by
  intro l
  induction l with
  | nil => rw [spl_nil, Lib.join_one]
  | cons c r ih =>
    cases hr : spl b r with
    | nil => exact absurd hr (spl_length_pos b r)
    | cons y ys =>
      rw [hr] at ih
      by_cases e : c = b
      · rw [e, spl_eq, hr, Lib.join_cons]
        rw [Lib.join_cons] at ih
        show [] ++ ([b] ++ y ++ Lib.joinTail [b] ys) = _
        simp only [List.nil_append, List.singleton_append, List.cons_append, ih]
      · rw [spl_ne e hr, Lib.join_cons]
        rw [Lib.join_cons] at ih
        rw [List.cons_append, ih]
theorem spl_le (b : UInt8) : ∀ l : List UInt8, (spl b l).length ≤ l.length + 1 := by
  intro l
  induction l with
  | nil => rw [spl_nil]; simp
  | cons c r ih =>
    by_cases e : c = b
    · rw [e, spl_eq, List.length_cons, List.length_cons]; omega
    · cases hr : spl b r with
      | nil => exact absurd hr (spl_length_pos b r)
      | cons y ys =>
        rw [spl_ne e hr]
        rw [hr] at ih
        simp only [List.length_cons] at ih ⊢; omega
theorem spl_full (b : UInt8) (l : List UInt8) (h : [] ∉ spl b l) : (spl b l).length ≤ l.length := by
  cases l with
  | nil => exact absurd (by rw [spl_nil]; simp) h
  | cons c r =>
    by_cases e : c = b
    · rw [e, spl_eq] at h
      exact absurd (by simp) h
    · cases hr : spl b r with
      | nil => exact absurd hr (spl_length_pos b r)
      | cons y ys =>
        have := spl_le b r
        rw [hr] at this
        rw [spl_ne e hr]
        simp only [List.length_cons] at this ⊢; omega
theorem rl_len {s : ByteArray} {us : List Nat} (hs : s.size ≤ 1048576) (h : RL s.data.toList us) : us.length ≤ 1048576 := by
  rcases h with h | h
  · rw [h.2]; simp
  · have h2 := h.2.1
    have : ([] : List UInt8) ∉ spl 32 s.data.toList := by
      rw [h2]
      intro q
      obtain ⟨u, _, hu⟩ := List.mem_map.1 q
      simp [nimT] at hu
    have h3 := spl_full 32 _ this
    rw [h2, List.length_map, Array.length_toList] at h3
    exact Nat.le_trans h3 hs
theorem uI_small2 (us : List Nat) (h : ∀ u ∈ us, u < 65536) : inU (uI us) := by
  intro z hz
  unfold uI at hz
  obtain ⟨u, hu, rfl⟩ := List.mem_map.1 hz
  have := h u hu
  omega
theorem text_back {l : List UInt8} {us : List Nat} (h : RL l us) (hu : us ≠ []) : jn (uI us) (uI us).length = l := by
  rcases h with ⟨_, e⟩ | ⟨_, h2⟩
  · exact absurd e hu
  · have e : nimTs (uI us) = us.map nimT := by
      unfold nimTs uI
      rw [List.map_map]
      apply List.map_congr_left
      intro u _
      rfl
    rw [jn_all, e, ← h2.1, join_spl]
def rd (s : ByteArray) : Prop := ∃ us, RL s.data.toList us ∧ us ≠ [] ∧ okP (uI us) = true
open Classical in
noncomputable def rdZ (s : ByteArray) : List Int := if s = zeroT then [] else if h : rd s then uI (Classical.choose h) else []
open Classical in
noncomputable def rdC (s : ByteArray) : Int := if s = zeroT then 0 else if rd s then 0 else 5
theorem rd_zero {s : ByteArray} (h : s = zeroT) : rdZ s = [] ∧ rdC s = 0 := by unfold rdZ rdC; rw [if_pos h, if_pos h]; exact ⟨rfl, rfl⟩
theorem rd_no {s : ByteArray} (h : ¬ s = zeroT) (hr : ¬ rd s) : rdZ s = [] ∧ rdC s = 5 := by unfold rdZ rdC; rw [if_neg h, if_neg h, dif_neg hr, if_neg hr]; exact ⟨rfl, rfl⟩
theorem rd_yes {s : ByteArray} {us : List Nat} (h : ¬ s = zeroT) (h1 : RL s.data.toList us) (h2 : us ≠ []) (h3 : okP (uI us) = true) : rdZ s = uI us ∧ rdC s = 0 := by
  have hr : rd s := ⟨us, h1, h2, h3⟩
  unfold rdZ rdC
  rw [if_neg h, if_neg h, dif_pos hr, if_pos hr]
  exact ⟨by rw [RL.inj (Classical.choose_spec hr).1 h1], rfl⟩
theorem rd_not {s : ByteArray} {us : List Nat} (h1 : RL s.data.toList us) (h2 : us = [] ∨ okP (uI us) = false) : ¬ rd s := by
  rintro ⟨vs, q1, q2, q3⟩
  obtain rfl := RL.inj q1 h1
  rcases h2 with e | e
  · exact q2 e
  · rw [e] at q3; cases q3
theorem rdZ_len (s : ByteArray) : (rdZ s).length ≤ 21 := by
  by_cases h : s = zeroT
  · rw [(rd_zero h).1]; simp
  · by_cases hr : rd s
    · obtain ⟨us, q1, q2, q3⟩ := hr
      rw [(rd_yes h q1 q2 q3).1]
      exact okP_len q3
    · rw [(rd_no h hr).1]; simp
theorem size0 {s : ByteArray} (h : s.data.toList = []) : s = ⟨#[]⟩ := by
  have := beq_of (s := s) (l := []) h
  exact this
theorem spec_ReadPoly (s : ByteArray) (hs : s.size ≤ 1048576) (w : World) :
    Calls Tryd.prog 9 #[.string s] w fun e w' => ∃ r, e = .returned (.tuple #[r, .int .i64 (rdC s)]) ∧ PO w' w.heap.size r (rdZ s) ∧ Below w.heap.size w w' := by
  by_cases h0 : s = zeroT
  · have E := Lib.hid (rd_zero h0)
    have T1 : (s.toList == [48]) = true := by rw [toListIs, h0]; rfl
    clear h0
    go_enter Tryd.func9, Tryd.ntmps9
    go_wp2_with fail
    go_ret2
    exact ⟨_, by rw [E.out.2]; rfl, by rw [E.out.1]; exact PO.nil _ _ _ _ (by first | exact Nat.zero_le _ | simp) (fun e => by first | rfl | cases e), (Below.refl _ _).alloc (Nat.le_refl _) _⟩
  have T1 : (s.toList == [48]) = false := by
    rw [beq_eq_false_iff_ne, toListIs]
    intro e
    exact h0 (beq_of e)
  have H0 := Lib.hid h0
  clear h0
  go_enter Tryd.func9, Tryd.ntmps9
  go_wp2_with fail
  refine (l01ReadList_any s hs _).mono ?_
  rintro e w1 ⟨⟨us, v, h1, rfl, h2, h3, h4⟩ | ⟨h1, v, rfl, h2⟩, hb⟩
  · obtain ⟨A, c, rfl, _, _⟩ := own_form2 h2
    have HB := Lib.hid hb
    have HIN := Lib.hid (uI_small2 us h4)
    have HPO := Lib.hid (PO.of_own h2 (uI_len us) (uI_small2 us h4))
    have hNS := HPO.out.ns
    have H1 := Lib.hid h1
    clear hb h2 h4 h1
    by_cases e0 : us.length = 0
    · have T3 : ((us.length : Int) == 0) = true := by rw [e0]; rfl
      have E := Lib.hid (rd_no H0.out (rd_not H1.out (.inl (List.length_eq_zero_iff.1 e0))))
      clear e0 hNS
      go_wp2_with fail
      go_ret2
      exact ⟨_, by rw [E.out.2]; rfl, by rw [E.out.1]; exact PO.nil _ _ _ _ (by first | exact Nat.zero_le _ | simp) (fun e => by first | rfl | cases e), HB.out.alloc HB.out.size _⟩
    · have T3 : ((us.length : Int) == 0) = false := by rw [beq_eq_false_iff_ne]; omega
      by_cases ho : okP (uI us) = true
      · have hl21 := okP_len ho
        rw [uI_len] at hl21
        have E := Lib.hid (rd_yes H0.out H1.out (fun e => e0 (by rw [e]; rfl)) ho)
        have hok := l05Ok_any (.slice A us.length c) (uI us) (by rw [uI_len]; omega) w1 hNS
        rw [ho] at hok
        have HOK := Lib.hid hok
        clear e0 ho hok hNS
        go_wp2_with fail
        refine HOK.out.mono ?_
        rintro e w' ⟨rfl, hw⟩
        obtain rfl := hw.symm
        go_wp2_with fail
        go_ret2
        exact ⟨_, by rw [E.out.2]; rfl, by rw [E.out.1]; exact HPO.out, HB.out⟩
      · have ho' : okP (uI us) = false := by simpa using ho
        have E := Lib.hid (rd_no H0.out (rd_not H1.out (.inr ho')))
        by_cases hbig : us.length ≤ 1048576
        · have hok := l05Ok_any (.slice A us.length c) (uI us) (by rw [uI_len]; exact hbig) w1 hNS
          rw [ho'] at hok
          have HOK := Lib.hid hok
          clear e0 ho hok hNS ho'
          go_wp2_with fail
          refine HOK.out.mono ?_
          rintro e w' ⟨rfl, hw⟩
          obtain rfl := hw.symm
          go_wp2_with fail
          go_ret2
          exact ⟨_, by rw [E.out.2]; rfl, by rw [E.out.1]; exact PO.nil _ _ _ _ (by first | exact Nat.zero_le _ | simp) (fun e => by first | rfl | cases e), HB.out.alloc HB.out.size _⟩
        · exact absurd (rl_len hs H1.out) hbig
  · have HB := Lib.hid hb
    have E := Lib.hid (rd_no H0.out (fun h => h1 ⟨h.choose, h.choose_spec.1⟩))
    obtain ⟨A, c, rfl, _, _⟩ := own_form2 h2
    clear h1 h2 hb
    go_wp2_with fail
    go_ret2
    exact ⟨_, by rw [E.out.2]; rfl, by rw [E.out.1]; exact PO.nil _ _ _ _ (by first | exact Nat.zero_le _ | simp) (fun e => by first | rfl | cases e), HB.out.alloc HB.out.size _⟩
theorem impl_ReadPoly (s : ByteArray) (hs : s.size ≤ 1048576) (m : Int) (w : World) (htab : POW w) (herr : ERRS w) (hm : w.cell? ⟨1, 0, none⟩ = some (.int .i64 m)) :
    Calls Tryd.prog 10 #[.string s] w fun e w' => ∃ r, e = .returned (.tuple #[r, .int .i64 (rdC s)]) ∧ PO w' w.heap.size r (rdZ s) ∧ Below w.heap.size w w' := by
  by_cases h0 : s = zeroT
  · have E := Lib.hid (rd_zero h0)
    have T1 : (s.toList == [48]) = true := by rw [toListIs, h0]; rfl
    clear h0 htab herr hm
    go_enter Tryd.func10, Tryd.ntmps10
    go_wp2_with fail
    go_ret2
    exact ⟨_, by rw [E.out.2]; rfl, by rw [E.out.1]; exact PO.nil0 _ _, Below.refl _ _⟩
  have T1 : (s.toList == [48]) = false := by
    rw [beq_eq_false_iff_ne, toListIs]
    intro e
    exact h0 (beq_of e)
  have H0 := Lib.hid h0
  have HT := Lib.hid htab
  have HR := Lib.hid (impl_ReadNims s hs m w htab herr hm)
  clear h0 htab herr hm
  go_enter Tryd.func10, Tryd.ntmps10
  go_wp2_with fail
  refine HR.out.mono ?_
  rintro e w1 ⟨⟨us, v, h1, rfl, h2, h3, h4⟩ | ⟨h1, v, rfl, h2⟩, hb⟩
  · obtain ⟨A, c, rfl, _, _⟩ := own_form2 h2
    have HPO := Lib.hid (PO.of_own h2 (uI_len us) (uI_small2 us h4))
    have hbig := rl_len hs h1
    have hpt := impl_PolyText (.slice A us.length c) (uI us) (by rw [uI_len]; exact hbig) w1 HPO.out.ns (HT.out.below hb)
    have HB := Lib.hid hb
    have H1 := Lib.hid h1
    obtain ⟨t, htt⟩ : ∃ t, t = polyT (uI us) := ⟨_, rfl⟩
    rw [← htt] at hpt
    have HP := Lib.hid hpt
    by_cases hy : us ≠ [] ∧ okP (uI us) = true
    · have E := Lib.hid (rd_yes H0.out h1 hy.1 hy.2)
      have hts : t = s := by
        rw [htt, polyT_yes hy.2 (by rw [uI_len]; exact fun e => hy.1 (List.length_eq_zero_iff.1 e)), text_back h1 hy.1]
      have T3 : (t.toList == s.toList) = true := by rw [hts]; simp
      have T4 : (t.toList != s.toList) = false := by rw [hts]; simp
      clear hpt hb h1 h2 h4 hy htt hts
      go_wp2_with fail
      refine HP.out.mono ?_
      rintro e w2 ⟨rfl, hb2⟩
      have HB2 := Lib.hid (bchain HB.out hb2)
      have HPO2 := Lib.hid (HPO.out.below hb2)
      clear hb2
      go_wp2_with fail
      go_ret2
      exact ⟨_, by rw [E.out.2]; rfl, by rw [E.out.1]; exact HPO2.out, HB2.out⟩
    · have hn2 : us = [] ∨ okP (uI us) = false := by
        by_cases e : us = []
        · exact .inl e
        · right
          cases ho : okP (uI us) with
          | false => rfl
          | true => exact absurd ⟨e, ho⟩ hy
      have E := Lib.hid (rd_no H0.out (rd_not h1 hn2))
      have hts : t ≠ s := by
        rw [htt]
        intro e
        rcases hn2 with q | q
        · subst q
          have e1 : polyT (uI []) = zeroT := rfl
          exact H0.out (by rw [← e, e1])
        · rw [polyT_no q] at e
          rcases h1 with ⟨_, q2⟩ | ⟨q2, _⟩
          · subst q2
            have : okP (uI []) = true := rfl
            rw [this] at q
            cases q
          · exact q2 (by rw [← e])
      have htl : t.toList ≠ s.toList := by
        intro e
        rw [toListIs, toListIs] at e
        exact hts ((beq_of e).trans (beq_of (s := s) rfl).symm)
      have T3 : (t.toList == s.toList) = false := by rw [beq_eq_false_iff_ne]; exact htl
      have T4 : (t.toList != s.toList) = true := bne_iff_ne.2 htl
      clear hpt hb h1 h2 h4 hy htt hts hn2 htl
      go_wp2_with fail
      refine HP.out.mono ?_
      rintro e w2 ⟨rfl, hb2⟩
      have HB2 := Lib.hid (bchain HB.out hb2)
      clear hb2
      go_wp2_with fail
      go_ret2
      exact ⟨_, by rw [E.out.2]; rfl, by rw [E.out.1]; exact PO.nil0 _ _, HB2.out⟩
  · have HB := Lib.hid hb
    have E := Lib.hid (rd_no H0.out (fun h => h1 ⟨h.choose, h.choose_spec.1⟩))
    obtain ⟨A, c, rfl, _, _⟩ := own_form2 h2
    clear h1 h2 hb
    go_wp2_with fail
    go_ret2
    exact ⟨_, by rw [E.out.2]; rfl, by rw [E.out.1]; exact PO.nil0 _ _, HB.out⟩
end Go.Proofs.YtnpadkkjaeblfaaDoor
