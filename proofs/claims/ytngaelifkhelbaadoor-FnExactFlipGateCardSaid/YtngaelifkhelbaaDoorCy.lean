/-
  NeededGates.
-/
import Derived.Test.YtngaelifkhelbaaDoorCx
namespace Go.Proofs.YtngaelifkhelbaaDoor
set_option linter.unusedVariables false
set_option linter.unusedSimpArgs false
open Go.ChangeShapes Go.WideShapes Go.ChangeAt Go.RowKit Go.Deep
/-- the places below k that are on -/
def idL (l : List Bool) : Nat → List Int
  | 0 => []
  | k + 1 => if l.getD k false then idL l k ++ [(k : Int)] else idL l k
theorem idL_len (l : List Bool) : ∀ k, (idL l k).length ≤ k
  | 0 => Nat.le_refl _
  | k + 1 => by
    rw [idL]
    have := idL_len l k
    split
    · rw [List.length_append]; simp; omega
    · omega
def ngL (n : Int) (gs : List G3) (os : List Int) : List Int := if circB n gs os then idL (ndL gs os) gs.length else []
theorem ngL_len (n : Int) (gs : List G3) (os : List Int) : (ngL n gs os).length ≤ 1048576 := by
  unfold ngL
  by_cases hc : circB n gs os = true
  · rw [if_pos hc]
    have := idL_len (ndL gs os) gs.length
    have := (head_of hc).2.2.1
    omega
  · rw [if_neg hc]; simp

set_option maxRecDepth 100000 in
set_option maxHeartbeats 8000000 in
theorem impl_NeededGates (v : Value) (n : Int) (gs : List G3) (os : List Int) (w : World) (h : CI w v n gs os) (hE : ET w) :
    Calls Tryd.prog 32 #[v] w fun e w' => ∃ u, e = .returned (.tuple #[u, .int .i64 (okC n gs os)]) ∧ Below w.heap.size w w' ∧ OR w.heap.size w'.heap.size w' 2 1 u (ngL n gs os).length (i64s (ngL n gs os)) := by
  have HE := Lib.hid hE
  clear hE
  have H := Lib.hid h
  obtain ⟨G, O, rfl, hn, hg, ho⟩ := h
  have HG := Lib.hid hg; have HO := Lib.hid ho
  obtain ⟨A, c, rfl⟩ := hg.form
  obtain ⟨A2, c2, rfl⟩ := ho.form
  clear hg ho
  obtain ⟨i0, hi, hz0, hz1, hz2⟩ := info_parts infoI64
  go_enter Tryd.func32, Tryd.ntmps32
  go_wp2_with fail
  obtain ⟨a1, hb1, s1⟩ := nw1 w (.cells #[.int .i8 n, .slice A gs.length c, .slice A2 os.length c2] 33)
  generalize World.alloc w _ = w1 at a1 hb1 s1 ⊢
  refine (openCircuit_any n _ _ gs os w1 (H.out.below hb1)).mono ?_
  rintro e w2 ⟨rfl, hb⟩
  have HB := Lib.hid (bch2 hb1 hb hb1.size)
  clear hb hb1 a1 s1
  cases hc : circB n gs os with
  | false =>
    have HC := Lib.hid hc
    clear hc
    simp only [opW, Bool.false_eq_true, if_false]
    have HB4 := Lib.hid (HB.out.trans ((nw1 w2 (.cells #[.slice none 0 0, .int .i8 0, .slice none 0 0] 74)).2.1.mono HB.out.size))
    go_wp2_with fail
    refine (reasonOf_bad 1 _ (HE.out.below HB4.out)).mono ?_
    rintro e w3 ⟨rfl, hb3⟩
    have HB3 := Lib.hid (HB4.out.trans (hb3.mono HB4.out.size))
    clear hb3
    go_wp2_with fail
    go_ret2
    refine ⟨_, by unfold okC; rw [HC.out]; rfl, HB3.out, ?_⟩
    have e : ngL n gs os = [] := by unfold ngL; rw [HC.out]; rfl
    rw [e]; exact OR.empty _ _ _ _ _
  | true =>
    have HC := Lib.hid hc
    have hlen : gs.length ≤ 600 := (head_of hc).2.2.1
    simp only [opW, if_true]
    have HB4 := Lib.hid (HB.out.trans ((nw1 w2 (.cells #[.slice A gs.length c, .int .i8 n, .slice A2 os.length c2] 74)).2.1.mono HB.out.size))
    go_wp2_with fail
    refine (implNeeded_any n _ _ gs os hc _ (HG.out.below HB4.out) (HO.out.below HB4.out)).mono ?_
    rintro e w5 ⟨U, rfl, hb2, ho2⟩
    obtain ⟨AU, cU, rfl, _, hAU⟩ := own_formc ho2
    have HB2 := Lib.hid (HB4.out.trans (hb2.mono HB4.out.size))
    have HAT := Lib.hid (fun (z : Nat) (hz : z < gs.length) (g : Nat) (e : AU = some ⟨g, 0, none⟩) => show w5.cell? ⟨g, z, none⟩ = some (.bool ((ndL gs os).getD z false)) from by
      subst e
      rw [ho2.cellAt z (by omega), List.getElem?_map, List.getD, List.getElem?_eq_getElem (by rw [ndL_len]; exact hz)]; rfl)
    have HAU := Lib.hid hAU
    clear hb2 ho2 hAU
    obtain ⟨vs, hvs⟩ : ∃ vs, vs = ndL gs os := ⟨_, rfl⟩
    rw [← hvs] at HAT
    have HVS := Lib.hid hvs
    clear hvs
    have HB0 := Lib.hid (Below.refl w5.heap.size w5)
    have HO0 : Hid (w5.ownsRow w5.heap.size 2 1 (.slice none 0 0) (idL vs 0).length (i64s (idL vs 0))) := Lib.hid (World.ownsRow_nil _ _ _ _)
    clear hc
    go_wp2_with fail
    go_loopw [21, 6] (fun y ov wr => ∃ k : Nat, y = .int .i64 (k : Int) ∧ k ≤ gs.length ∧ Hid (wr.ownsRow w5.heap.size 2 1 ov (idL vs k).length (i64s (idL vs k))) ∧ Hid (Below w5.heap.size w5 wr)) (fun y _ _ => gs.length - (intOf y).toNat)
    case atStart => exact ⟨0, rfl, Nat.zero_le _, HO0, HB0⟩
    case round =>
      obtain ⟨k, rfl, hk, HOW, HB⟩ := hrel
      clear HO0 HB0
      by_cases hlt : k < gs.length
      · obtain ⟨go, rfl, _, hgo⟩ := HAU.out (by omega)
        have va : wr.cell? ⟨go, k, none⟩ = some (.bool (vs.getD k false)) := (HB.out.cell (p := ⟨go, k, none⟩) hgo).trans (HAT.out k hlt go rfl)
        have T1 : decide ((k : Int) < (gs.length : Int)) = true := by simp; omega
        have i1 : (k : Int) < (gs.length : Int) := by omega
        obtain ⟨ls, hls⟩ : ∃ ls, ls = idL vs k := ⟨_, rfl⟩
        have HLK := Lib.hid (show ls.length ≤ k from by rw [hls]; exact idL_len vs k)
        obtain ⟨p1, hp1⟩ : ∃ p1, p1 = vs.getD k false := ⟨_, rfl⟩
        rw [← hp1] at va
        rw [← hls] at HOW
        have HST := Lib.hid (show idL vs (k + 1) = if p1 then ls ++ [(k : Int)] else ls from by rw [idL, ← hp1, ← hls])
        obtain ⟨AO, cO, rfl, _, hAO⟩ := own_formc HOW.out
        have HAO := Lib.hid hAO
        clear hAO hls hp1
        cases p1 with
        | false =>
          have HE := Lib.hid (show idL vs (k + 1) = ls from HST.out)
          go_wp2_with fail
          exact ⟨⟨k + 1, by go_num, by omega, by rw [HE.out]; exact HOW, HB⟩, by simp [intOf]; omega⟩
        | true =>
          have HE := Lib.hid (show idL vs (k + 1) = ls ++ [(k : Int)] from HST.out)
          have hl9 := HLK.out
          go_wp2_with (at_builtin; refine wpList_append_own _ rfl _ _ 50 rfl w5.heap.size 2 i0 (.int .i64 0) 1 8 Tryd.underlying50 hi hz0 hz1 hz2 rfl (by decide) _ ls.length _ rfl (HOW.out.alloc _) ⟨wr.heap.size, 0, none⟩ 1 1 [.int .i64 (k : Int)] rfl rfl ?b1 ?b2 ?b3 ?b4 ?b5 ?_)
          try case b1 => exact one_cellC _ _ _
          try case b2 => simp [Value.oneCell']
          try case b3 => (unfold maxLen; omega)
          try case b4 => omega
          try case b5 => (have := HB.out.size; first | omega | (rw [World.size_alloc]; omega))
          intro s' wy hown hgrow _
          rw [show i64s ls ++ [Value.int .i64 (k : Int)] = i64s (idL vs (k + 1)) from by rw [HE.out]; simp, show ls.length + 1 = (idL vs (k + 1)).length from by rw [HE.out, List.length_append]; rfl] at hown
          have HB3 := Lib.hid ((HB.out.alloc HB.out.size _).grown hgrow (by rw [World.size_alloc]; have := HB.out.size; omega) (fun x hx => (HOW.out.lt x hx).1))
          have HO3 := Lib.hid hown
          clear hown hgrow hl9
          go_wp2_with fail
          exact ⟨⟨k + 1, by go_num, by omega, HO3, HB3⟩, by simp [intOf]; omega⟩
      · obtain rfl : k = gs.length := by omega
        have T1 : decide ((gs.length : Int) < (gs.length : Int)) = false := by simp
        have hz9 := HB2.out.size
        have HFIN := Lib.hid (OR.of (own_low HOW.out hz9))
        have HBF := Lib.hid (HB2.out.trans (HB.out.mono hz9))
        have HEV := Lib.hid (show idL vs gs.length = ngL n gs os from by unfold ngL; rw [HC.out, HVS.out]; rfl)
        obtain ⟨AO, cO, rfl, _, _⟩ := own_formc HOW.out
        clear hz9
        go_wp2_with fail
        go_ret2
        refine ⟨_, by unfold okC; rw [HC.out]; rfl, HBF.out, ?_⟩
        have h := HFIN.out
        rw [HEV.out] at h
        rw [← HEV.out]; rw [HEV.out]; exact h
set_option maxRecDepth 100000 in
set_option maxHeartbeats 8000000 in
theorem spec_NeededGates (v : Value) (n : Int) (gs : List G3) (os : List Int) (w : World) (h : CI w v n gs os) :
    Calls Tryd.prog 31 #[v] w fun e w' => ∃ u, e = .returned (.tuple #[u, .int .i64 (okC n gs os)]) ∧ Below w.heap.size w w' ∧ OR w.heap.size w'.heap.size w' 2 1 u (ngL n gs os).length (i64s (ngL n gs os)) := by
  have H := Lib.hid h
  obtain ⟨G, O, rfl, hn, hg, ho⟩ := h
  have HG := Lib.hid hg; have HO := Lib.hid ho
  obtain ⟨A, c, rfl⟩ := hg.form
  obtain ⟨A2, c2, rfl⟩ := ho.form
  clear hg ho
  obtain ⟨i0, hi, hz0, hz1, hz2⟩ := info_parts infoI64
  go_enter Tryd.func31, Tryd.ntmps31
  go_wp2_with fail
  obtain ⟨a1, hb1, s1⟩ := nw1 w (.cells #[.int .i8 n, .slice A gs.length c, .slice A2 os.length c2] 33)
  generalize World.alloc w _ = w1 at a1 hb1 s1 ⊢
  refine (l07Ok_any w.heap.size n _ _ gs os w1 ⟨_, a1⟩ hn (HG.out.below hb1) (HO.out.below hb1)).mono ?_
  rintro e w2 ⟨rfl, hb⟩
  have m1 : Hid (BX w2 w.heap.size (.int .i8 n) (.slice A gs.length c) (.slice A2 os.length c2)) := Lib.hid (BX.belowB ⟨_, a1⟩ hb (by omega))
  have HB := Lib.hid (bch2 hb1 hb hb1.size)
  clear hb hb1 a1 s1
  cases hc : circB n gs os with
  | false =>
    have HC := Lib.hid hc
    clear hc
    go_wp2_with fail
    obtain ⟨z1, z2, z3⟩ := nw1 w2 (.cells #[] 2)
    have HBz := Lib.hid (HB.out.trans (z2.mono HB.out.size))
    have HOR := Lib.hid (OR.built 1 z1 w.heap.size HB.out.size)
    clear z1 z2 z3
    go_ret2
    refine ⟨_, by unfold okC; rw [HC.out]; rfl, HBz.out, ?_⟩
    have e : ngL n gs os = [] := by unfold ngL; rw [HC.out]; rfl
    rw [e]; exact HOR.out
  | true =>
    have HC := Lib.hid hc
    have hlen : gs.length ≤ 600 := (head_of hc).2.2.1
    go_wp2_with fail
    refine (specNeeded_any n w.heap.size _ _ _ gs os hc w2 m1.out (HG.out.below HB.out) (HO.out.below HB.out)).mono ?_
    rintro e w5 ⟨U, rfl, hb2, ho2⟩
    obtain ⟨AU, cU, rfl, _, hAU⟩ := own_formc ho2
    have HB2 := Lib.hid (HB.out.trans (hb2.mono HB.out.size))
    have HAT := Lib.hid (fun (z : Nat) (hz : z < gs.length) (g : Nat) (e : AU = some ⟨g, 0, none⟩) => show w5.cell? ⟨g, z, none⟩ = some (.bool ((ndL gs os).getD z false)) from by
      subst e
      rw [ho2.cellAt z (by omega), List.getElem?_map, List.getD, List.getElem?_eq_getElem (by rw [ndL_len]; exact hz)]; rfl)
    have HAU := Lib.hid hAU
    clear hb2 ho2 hAU
    obtain ⟨vs, hvs⟩ : ∃ vs, vs = ndL gs os := ⟨_, rfl⟩
    rw [← hvs] at HAT
    have HVS := Lib.hid hvs
    clear hvs
    clear hc
    go_wp2_with fail
    have m1 : (w5.alloc (.cells #[] 2)).ownsRow w5.heap.size 2 1 (.slice (some ⟨w5.heap.size, 0, none⟩) 0 0) (idL vs 0).length (i64s (idL vs 0)) := World.ownsRow_made _ #[] 0 (by omega) (Nat.zero_le _) rfl
    have m2 : Below w5.heap.size w5 (w5.alloc (.cells #[] 2)) := (nw1 w5 _).2.1
    have HB0 := Lib.hid m2; have HO0 := Lib.hid m1
    clear m1 m2
    generalize w5.alloc (.cells #[] 2) = w6 at HB0 HO0 ⊢
    go_loopw [6, 5] (fun y ov wr => ∃ k : Nat, y = .int .i64 (k : Int) ∧ k ≤ gs.length ∧ Hid (wr.ownsRow w5.heap.size 2 1 ov (idL vs k).length (i64s (idL vs k))) ∧ Hid (Below w5.heap.size w5 wr)) (fun y _ _ => gs.length - (intOf y).toNat)
    case atStart => exact ⟨0, rfl, Nat.zero_le _, HO0, HB0⟩
    case round =>
      obtain ⟨k, rfl, hk, HOW, HB⟩ := hrel
      clear HO0 HB0
      by_cases hlt : k < gs.length
      · obtain ⟨go, rfl, _, hgo⟩ := HAU.out (by omega)
        have va : wr.cell? ⟨go, k, none⟩ = some (.bool (vs.getD k false)) := (HB.out.cell (p := ⟨go, k, none⟩) hgo).trans (HAT.out k hlt go rfl)
        have T1 : decide ((k : Int) < (gs.length : Int)) = true := by simp; omega
        have i1 : (k : Int) < (gs.length : Int) := by omega
        obtain ⟨ls, hls⟩ : ∃ ls, ls = idL vs k := ⟨_, rfl⟩
        have HLK := Lib.hid (show ls.length ≤ k from by rw [hls]; exact idL_len vs k)
        obtain ⟨p1, hp1⟩ : ∃ p1, p1 = vs.getD k false := ⟨_, rfl⟩
        rw [← hp1] at va
        rw [← hls] at HOW
        have HST := Lib.hid (show idL vs (k + 1) = if p1 then ls ++ [(k : Int)] else ls from by rw [idL, ← hp1, ← hls])
        obtain ⟨AO, cO, rfl, _, hAO⟩ := own_formc HOW.out
        have HAO := Lib.hid hAO
        clear hAO hls hp1
        cases p1 with
        | false =>
          have HE := Lib.hid (show idL vs (k + 1) = ls from HST.out)
          go_wp2_with fail
          exact ⟨⟨k + 1, by go_num, by omega, by rw [HE.out]; exact HOW, HB⟩, by simp [intOf]; omega⟩
        | true =>
          have HE := Lib.hid (show idL vs (k + 1) = ls ++ [(k : Int)] from HST.out)
          have hl9 := HLK.out
          go_wp2_with (at_builtin; refine wpList_append_own _ rfl _ _ 50 rfl w5.heap.size 2 i0 (.int .i64 0) 1 8 Tryd.underlying50 hi hz0 hz1 hz2 rfl (by decide) _ ls.length _ rfl (HOW.out.alloc _) ⟨wr.heap.size, 0, none⟩ 1 1 [.int .i64 (k : Int)] rfl rfl ?c1 ?c2 ?c3 ?c4 ?c5 ?_)
          try case c1 => exact one_cellC _ _ _
          try case c2 => simp [Value.oneCell']
          try case c3 => (unfold maxLen; omega)
          try case c4 => omega
          try case c5 => (have := HB.out.size; first | omega | (rw [World.size_alloc]; omega))
          intro s' wy hown hgrow _
          rw [show i64s ls ++ [Value.int .i64 (k : Int)] = i64s (idL vs (k + 1)) from by rw [HE.out]; simp, show ls.length + 1 = (idL vs (k + 1)).length from by rw [HE.out, List.length_append]; rfl] at hown
          have HB3 := Lib.hid ((HB.out.alloc HB.out.size _).grown hgrow (by rw [World.size_alloc]; have := HB.out.size; omega) (fun x hx => (HOW.out.lt x hx).1))
          have HO3 := Lib.hid hown
          clear hown hgrow hl9
          go_wp2_with fail
          exact ⟨⟨k + 1, by go_num, by omega, HO3, HB3⟩, by simp [intOf]; omega⟩
      · obtain rfl : k = gs.length := by omega
        have T1 : decide ((gs.length : Int) < (gs.length : Int)) = false := by simp
        have hz9 := HB2.out.size
        have HFIN := Lib.hid (OR.of (own_low HOW.out hz9))
        have HBF := Lib.hid (HB2.out.trans (HB.out.mono hz9))
        have HEV := Lib.hid (show idL vs gs.length = ngL n gs os from by unfold ngL; rw [HC.out, HVS.out]; rfl)
        obtain ⟨AO, cO, rfl, _, _⟩ := own_formc HOW.out
        clear hz9
        go_wp2_with fail
        go_ret2
        refine ⟨_, by unfold okC; rw [HC.out]; rfl, HBF.out, ?_⟩
        have h := HFIN.out
        rw [HEV.out] at h
        rw [← HEV.out]; rw [HEV.out]; exact h

end Go.Proofs.YtngaelifkhelbaaDoor
