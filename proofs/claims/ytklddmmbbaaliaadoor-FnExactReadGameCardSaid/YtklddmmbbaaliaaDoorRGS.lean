/-
  The specification reads a game.
-/
import Derived.Test.YtklddmmbbaaliaaDoorRG1
namespace Go.Proofs.YtklddmmbbaaliaaDoor
set_option linter.unusedVariables false
set_option linter.unusedSimpArgs false
open Go.ChangeShapes Go.WideShapes Go.ChangeAt Go.RowKit Go.Deep
theorem num_row {p : List UInt8} (h : NumOk p) (hu : spell 0 p < 60) : Lib.decDigits (spell 0 p) = p := h.dd
/-- the parts that have been read, row by row -/
def SRK (l : List UInt8) (k : Nat) (uss : List (List Nat)) : Prop := uss.length = k ∧ ∀ i, i < k → SRow ((spl 32 l).getD i []) (uss.getD i [])
theorem SRK.zero (l : List UInt8) : SRK l 0 [] := ⟨rfl, fun i hi => by omega⟩
theorem SRK.step {l : List UInt8} {k : Nat} {uss : List (List Nat)} {us : List Nat} (h : SRK l k uss) (hs : SRow ((spl 32 l).getD k []) us) : SRK l (k + 1) (uss ++ [us]) := by
  obtain ⟨h1, h2⟩ := h
  refine ⟨by simp [h1], fun i hi => ?_⟩
  by_cases e : i < k
  · rw [show (uss ++ [us]).getD i [] = uss.getD i [] from by simp [List.getD, List.getElem?_append_left (show i < uss.length by omega)]]
    exact h2 i e
  · obtain rfl : i = k := by omega
    rw [show (uss ++ [us]).getD i [] = us from by simp [List.getD, ← h1]]
    exact hs
theorem bad_part {l : List UInt8} {k : Nat} (hk : k < (spl 32 l).length) (h : ∀ us, ¬ SRow ((spl 32 l).getD k []) us) : ¬ ∃ gs, GTX l gs := by
  rintro ⟨gs, hg⟩
  obtain ⟨h1, h2⟩ := gtx_rows hg
  obtain ⟨us, _, hs⟩ := h2 k (by omega)
  exact h us hs
theorem bad_num {p : List UInt8} (hp : p ≠ [45]) {j : Nat} (hj : j < (spl 44 p).length) (h : ∀ u, u < 60 → (spl 44 p).getD j [] ≠ Lib.decDigits u) : ∀ us, ¬ SRow p us := by
  intro us hs
  rcases hs with ⟨h1, _⟩ | ⟨_, h2, h3⟩
  · exact hp h1
  · have hj2 : j < us.length := by rw [h2] at hj; simpa using hj
    refine h (us.getD j 0) (h3 _ (by simp [List.getD, hj2])) ?_
    rw [h2]; simp [List.getD, List.getElem?_map, hj2]
theorem part_gen {b : UInt8} {P : List ByteArray} {l : List UInt8} (h : P.map (·.data.toList) = spl b l) {k : Nat} (hk : k < P.length) : k < (spl b l).length ∧ (spl b l).getD k [] = P[k].data.toList := by
  have h2 : k < (spl b l).length := by rw [← h]; simpa using hk
  refine ⟨h2, ?_⟩
  rw [← h]
  simp [List.getD, List.getElem?_map, hk]
theorem conv8r (k : Nat) (h : k < 128) : IntKind.wrap .i8 (k : Int) = (k : Int) := by
  simp only [IntKind.wrap, show IntKind.i8.bits = 8 from rfl, show IntKind.i8.signed = true from rfl]
  simp; omega
theorem take_dd {l : List UInt8} {us : List Nat} {q u : Nat} (hk : q < (spl 44 l).length) (h : (spl 44 l).take q = us.map Lib.decDigits) (e : (spl 44 l).getD q [] = Lib.decDigits u) : (spl 44 l).take (q + 1) = (us ++ [u]).map Lib.decDigits := by
  rw [List.take_succ_eq_append_getElem hk, h, List.map_append]
  have : (spl 44 l).getD q [] = (spl 44 l)[q] := by simp [List.getD, hk]
  rw [← this, e]; rfl
theorem gs_nil (B : Nat) (w : World) (A : Option Addr) (c : Nat) : GS B w (.slice A 0 c) [] := ⟨A, c, rfl, by simp, by simp, fun h => by simp at h⟩
theorem i8s_snoc (us : List Nat) (u : Nat) : i8s (uI us) ++ [Value.int .i8 (u : Int)] = i8s (uI (us ++ [u])) := by simp [uI, i8s]
theorem SRK.total {l : List UInt8} {uss : List (List Nat)} (h : SRK l (spl 32 l).length uss) (hs : l.length ≤ 1048576) : total (uss.map uI) ≤ 1048576 := by
  obtain ⟨h1, h2⟩ := h
  refine total_of_parts (by simpa using h1) (fun i hi => ?_) hs
  have hi2 : i < uss.length := by simpa using hi
  have e : (uss.map uI).getD i [] = uI (uss.getD i []) := by simp [List.getD, List.getElem?_map, hi2]
  rw [e, uI_len]
  exact (h2 i (by omega)).room
set_option maxRecDepth 100000 in
set_option maxHeartbeats 8000000 in
theorem spec_ReadGame (s : ByteArray) (hs : s.size ≤ 1048576) (w : World) :
    Calls Tryd.prog 62 #[.string s] w fun e w' => ((∃ gs v, GTX s.data.toList gs ∧ e = .returned (.tuple #[v, .int .i64 0]) ∧ GS w.heap.size w' v gs) ∨ ((¬ ∃ gs, GTX s.data.toList gs) ∧ ∃ v, e = .returned (.tuple #[v, .int .i64 5]) ∧ GS w.heap.size w' v [])) ∧ Below w.heap.size w w' := by
  obtain ⟨ir, hir, hr0, hr1, hr2⟩ := info_parts infoRow8
  obtain ⟨i0, hi, hz0, hz1, hz2⟩ := info_parts infoI8
  have HIR := Lib.hid (And.intro hir (And.intro hr0 (And.intro hr1 hr2)))
  have HI0 := Lib.hid (And.intro hi (And.intro hz0 (And.intro hz1 hz2)))
  clear hir hr0 hr1 hr2 hi hz0 hz1 hz2
  go_enter Tryd.func62, Tryd.ntmps62
  go_wp2_with fail
  refine (l01Split_any s hs 32 _).mono ?_
  rintro e wa ⟨v, P, rfl, hown, hP, hPl, hPz, hb⟩
  obtain ⟨A0, c0, rfl, _, hA⟩ := own_form2 hown
  obtain ⟨B, hB⟩ : ∃ B, B = w.heap.size := ⟨_, rfl⟩
  rw [← hB] at hown hb hA
  have HOP := Lib.hid hown
  have HP := Lib.hid hP
  have HPZ := Lib.hid hPz
  have HA := Lib.hid hA
  have HBB := Lib.hid hB
  have hsz : B ≤ wa.heap.size := by rw [hB]; rw [hB] at hb; exact hb.size
  have HB1 := Lib.hid hb
  clear hown hP hPz hb hA hB
  go_wp2_with fail
  have m1 : OGU (fun _ => .slice none 0 0) B (wa.alloc (.cells #[] 124)) (.slice (some ⟨wa.heap.size, 0, none⟩) 0 0) [] :=
    ⟨World.ownsRow_made _ #[] 0 hsz (Nat.zero_le _) rfl, fun i hi => by simp at hi, fun i hi => by simp at hi, fun i j hij hj => by simp at hj⟩
  have m2 : Below B w (wa.alloc (.cells #[] 124)) := HB1.out.alloc hsz _
  have m3 : B ≤ (wa.alloc (.cells #[] 124)).heap.size := by rw [World.size_alloc]; omega
  have m4 := HOP.out.alloc (.cells #[] 124)
  have M1 := Lib.hid m1
  have M2 := Lib.hid m2
  have M3 := Lib.hid m3
  have M4 := Lib.hid m4
  clear m1 m2 m3 m4 hsz HB1 HOP
  generalize wa.alloc (.cells #[] 124) = wb at M1 M2 M3 M4 ⊢
  go_loopw [5, 6] (fun o i wr => ∃ (k : Nat) (U : Nat → Value) (uss : List (List Nat)), i = .int .i64 k ∧ k ≤ P.length ∧ Hid (SRK s.data.toList k uss) ∧ Hid (OGU U B wr o (uss.map uI)) ∧ Hid (wr.ownsRow B 9 1 (.slice A0 P.length c0) P.length (P.map Value.string)) ∧ Hid (Below B w wr) ∧ Hid (B ≤ wr.heap.size)) (fun _ i _ => P.length - (intOf i).toNat)
  case atStart => exact ⟨0, _, [], rfl, Nat.zero_le _, Lib.hid (SRK.zero _), M1, M4, M2, M3⟩
  case round =>
    clear M1 M2 M3 M4
    obtain ⟨k, U, uss, rfl, hk, HK, HO, HOP, HBW, HS⟩ := hrel
    obtain ⟨wo, rfl⟩ : ∃ wo : World, wo = wr := ⟨_, rfl⟩
    by_cases hlt : k < P.length
    · obtain ⟨g, hg, _, hg2⟩ := HA.out (by omega)
      subst hg
      have T1 : decide ((k : Int) < (P.length : Int)) = true := by simp; omega
      have hcl : wo.cell? ⟨g, k, none⟩ = some (.string (P[k]'hlt)) := by
        rw [HOP.out.cellAt k (by omega), List.getElem?_map, List.getElem?_eq_getElem hlt]; rfl
      obtain ⟨hk2, hpe⟩ := part_gen HP.out hlt
      have hpz := HPZ.out _ (List.getElem_mem hlt)
      have HPE := Lib.hid hpe
      have HK2 := Lib.hid hk2
      have i1 : (k : Int) < (P.length : Int) := by omega
      have hgs : g < wo.heap.size := (HOP.out.lt g rfl).2
      generalize P[k]'hlt = p at hcl hpz HPE
      clear hpe hk2
      have hcl2 : (wo.alloc (.cells #[] 57)).cell? ⟨g, k, none⟩ = some (.string p) := (World.cell?_alloc_lt wo _ ⟨g, k, none⟩ hgs).trans hcl
      obtain ⟨AO, cO, rfl, _, _⟩ := own_form HO.out.outer
      have hul : (uss.map uI).length = uss.length := by simp
      have hkl : uss.length ≤ 1048577 := by have := HK.out.1; omega
      rw [hul]
      obtain ⟨M, hM⟩ : ∃ M, M = wo.heap.size := ⟨_, rfl⟩
      have HM := Lib.hid hM
      have hBM : B ≤ M := by have := HS.out; omega
      have hout := HO.out.outer
      rw [hul] at hout
      have HOUT := Lib.hid hout
      replace HO : Hid (OGU U B wo (.slice AO uss.length cO) (uss.map uI)) := Lib.hid (by have h := HO.out; rw [hul] at h; exact h)
      have hnew : Below M wo (wo.alloc (.cells #[] 57)) := (Below.refl _ _).alloc (by omega) _
      have HNEW := Lib.hid hnew
      have hmade : (wo.alloc (.cells #[] 57)).ownsRow M 57 1 (.slice (some ⟨wo.heap.size, 0, none⟩) 0 0) 0 [] := World.ownsRow_made _ #[] 0 (by omega) (Nat.zero_le _) rfl
      have HMADE := Lib.hid hmade
      clear hul hM hout hnew hmade
      by_cases h45 : p.data.toList = [45]
      · have T45 : (!p.toList == [45]) = false := by rw [toListIs, h45]; rfl
        have hsr : SRow ((spl 32 s.data.toList).getD k []) [] := .inl ⟨by rw [HPE.out]; exact h45, rfl⟩
        have HSR := Lib.hid hsr
        have hU : (wo.alloc (.cells #[] 57)).ownsRow B 124 1 (.slice AO uss.length cO) uss.length ((List.range uss.length).map U) := HOUT.out.alloc _
        have HU := Lib.hid hU
        clear h45 hsr hU
        go_wp2_with (at_builtin; refine wpList_append_own _ rfl _ _ 75 rfl (B) 124 ir (.slice none 0 0) 1 24 Tryd.underlying75 HIR.out.1 HIR.out.2.1 HIR.out.2.2.1 HIR.out.2.2.2 rfl (by decide) _ (uss.length) _ rfl (HU.out.alloc _) ⟨wo.heap.size + 1, 0, none⟩ 1 1 [.slice (some ⟨wo.heap.size, 0, none⟩) 0 0] rfl rfl ?c1 ?c2 ?c3 ?c4 ?c5 ?_)
        case c1 => have := one_cellS (wo.alloc (.cells #[] 57)) (.slice (some ⟨wo.heap.size, 0, none⟩) 0 0) 124; rw [World.size_alloc] at this; exact this
        case c2 => simp [Value.oneCell']
        case c3 => unfold maxLen; omega
        case c4 => omega
        case c5 => rw [World.size_alloc, World.size_alloc]; have := HS.out; omega
        intro s' wy hown hgrow _
        have hd := row_done (zs := []) HO.out HM.out hBM HNEW.out HMADE.out (fun z hz => by cases hz) hgrow (by rw [List.length_map]; exact hown)
        have hd2 : ∃ U', OGU U' B wy s' ((uss ++ [[]]).map uI) := by rw [List.map_append]; exact hd
        have hb2 := ((HBW.out.trans (HNEW.out.mono hBM)).alloc (by rw [World.size_alloc]; have := HS.out; omega) (.cells #[.slice (some ⟨wo.heap.size, 0, none⟩) 0 0] 124)).grown hgrow (by rw [World.size_alloc, World.size_alloc]; have := HS.out; omega) (fun x hx => (HU.out.lt x hx).1)
        have HB2 := Lib.hid hb2
        have hal2 : Below wo.heap.size wo ((wo.alloc (.cells #[] 57)).alloc (.cells #[.slice (some ⟨wo.heap.size, 0, none⟩) 0 0] 124)) := ((Below.refl _ _).alloc (Nat.le_refl _) _).alloc (by simp) _
        have HOP2 := Lib.hid ((own_below HOP.out hal2).kept hgrow (own_ne (own_below HOP.out hal2) (own_below HOUT.out hal2) (by decide)))
        have HS2 := Lib.hid (show B ≤ wy.heap.size from Nat.le_trans (show B ≤ ((wo.alloc (.cells #[] 57)).alloc (.cells #[.slice (some ⟨wo.heap.size, 0, none⟩) 0 0] 124)).heap.size by rw [World.size_alloc, World.size_alloc]; have := HS.out; omega) hgrow.size)
        have HD := Lib.hid hd2
        have HK3 := Lib.hid (HK.out.step HSR.out)
        clear hown hgrow hd hd2 hb2 hal2 HO HOP HBW HS HU HNEW HMADE
        go_wp2_with fail
        obtain ⟨U', hU'⟩ := HD.out
        exact ⟨⟨k + 1, U', uss ++ [[]], by go_num, by omega, HK3, Lib.hid hU', HOP2, HB2, HS2⟩, by simp [intOf]; omega⟩
      · have T45 : (!p.toList == [45]) = true := by
          rw [toListIs]
          simp only [Bool.not_eq_true', beq_eq_false_iff_ne]
          exact h45
        have H45 := Lib.hid h45
        clear h45
        go_wp2_with fail
        refine (l01Split_any p hpz 44 _).mono ?_
        rintro e w2 ⟨v2, P2, rfl, hown2, hP2, hPl2, hPz2, hb2⟩
        obtain ⟨A2, c2, rfl, _, hA2⟩ := own_form2 hown2
        have HP2 := Lib.hid hP2
        have HPZ2 := Lib.hid hPz2
        have HA2 := Lib.hid hA2
        have hbo : Below M wo w2 := HNEW.out.trans (hb2.mono (by rw [World.size_alloc]; have := HM.out; omega))
        have HBO := Lib.hid hbo
        have HOP2 := Lib.hid (own_lower2 hown2 (show M ≤ _ by rw [World.size_alloc]; have := HM.out; omega))
        have HM2 := Lib.hid (own_below HMADE.out hb2)
        have hsz2 : M ≤ w2.heap.size := Nat.le_trans (by rw [World.size_alloc]; have := HM.out; omega) hb2.size
        have HSZ2 := Lib.hid hsz2
        clear hown2 hP2 hPz2 hb2 hA2 hbo hsz2 HNEW HMADE
        go_wp2_with fail
        go_loopw [7, 9] (fun y j wx => ∃ (q : Nat) (us : List Nat), j = .int .i64 q ∧ q ≤ P2.length ∧ us.length = q ∧ Hid (wx.ownsRow M 57 1 y us.length (i8s (uI us))) ∧ Hid (wx.ownsRow M 9 1 (.slice A2 P2.length c2) P2.length (P2.map Value.string)) ∧ Hid ((spl 44 p.data.toList).take q = us.map Lib.decDigits) ∧ Hid (∀ u ∈ us, u < 60) ∧ Hid (Below M wo wx) ∧ Hid (M ≤ wx.heap.size)) (fun _ j _ => P2.length - (intOf j).toNat)
        case atStart => exact ⟨0, [], rfl, Nat.zero_le _, rfl, HM2, HOP2, Lib.hid rfl, Lib.hid (fun u hu => by cases hu), HBO, HSZ2⟩
        case round =>
          clear HM2 HOP2 HBO HSZ2
          obtain ⟨q, us, rfl, hq, hus, HQ, HOQ, HTK, HUS, HBQ, HSQ⟩ := hrel
          by_cases hlt2 : q < P2.length
          · obtain ⟨g2, hg, _, _⟩ := HA2.out (by omega)
            subst hg
            have T2 : decide ((q : Int) < (P2.length : Int)) = true := by simp; omega
            have q1 : (q : Int) < (P2.length : Int) := by omega
            have hcl3 : wr.cell? ⟨g2, q, none⟩ = some (.string (P2[q]'hlt2)) := by
              rw [HOQ.out.cellAt q (by omega), List.getElem?_map, List.getElem?_eq_getElem hlt2]; rfl
            obtain ⟨hk3, hpe3⟩ := part_gen HP2.out hlt2
            have hpz3 := HPZ2.out _ (List.getElem_mem hlt2)
            have HPE3 := Lib.hid hpe3
            have HK3 := Lib.hid hk3
            generalize P2[q]'hlt2 = d at hcl3 hpz3 HPE3
            clear hpe3 hk3
            by_cases hn : NumOk d.data.toList
            · obtain ⟨u, hu⟩ : ∃ u, u = spell 0 d.data.toList := ⟨_, rfl⟩
              have hdd : Lib.decDigits u = d.data.toList := by rw [hu]; exact hn.dd
              have HDD := Lib.hid hdd
              have HN := Lib.hid hn
              have HUU := Lib.hid hu
              clear hdd hn hu
              go_wp2_with fail
              refine (numb_any d (by omega) _).mono ?_
              rintro e w5 ⟨⟨he, _⟩, rfl⟩
              obtain rfl := he HN.out
              rw [← HUU.out]
              by_cases hu60 : u < 60
              · have T3 : decide ((60 : Int) ≤ (u : Int)) = false := by simp; omega
                have T3' : decide (60 ≤ u) = false := by simp; omega
                have cv : IntKind.i8.wrap (u : Int) = (u : Int) := by
                  exact conv8r u (by omega)
                obtain ⟨AQ, cQ, rfl, _, _⟩ := own_form HQ.out
                have hul0 : us.length ≤ 1048577 := by omega
                have HUSL := Lib.hid hus
                clear hus
                go_wp2_with (at_builtin; refine wpList_append_own _ rfl _ _ 124 rfl (M) 57 i0 (.int .i8 0) 1 1 Tryd.underlying124 HI0.out.1 HI0.out.2.1 HI0.out.2.2.1 HI0.out.2.2.2 rfl (by decide) _ (us.length) _ rfl (HQ.out.alloc _) ⟨wr.heap.size, 0, none⟩ 1 1 [.int .i8 (u : Int)] rfl rfl ?d1 ?d2 ?d3 ?d4 ?d5 ?_)
                case d1 => exact one_cellS _ _ _
                case d2 => simp [Value.oneCell']
                case d3 => unfold maxLen; omega
                case d4 => omega
                case d5 => rw [World.size_alloc]; have := HSQ.out; omega
                intro y' wz hown hgrow _
                have HB2 := Lib.hid ((HBQ.out.alloc HSQ.out _).grown hgrow (by rw [World.size_alloc]; have := HSQ.out; omega) (fun x hx => (HQ.out.lt x hx).1))
                have HS2 := Lib.hid (Nat.le_trans (show M ≤ (wr.alloc (.cells #[.int .i8 (u : Int)] 57)).heap.size by rw [World.size_alloc]; have := HSQ.out; omega) hgrow.size)
                have HOQ2 := Lib.hid ((HOQ.out.alloc (.cells #[.int .i8 (u : Int)] 57)).kept hgrow (own_ne HOQ.out HQ.out (by decide)))
                have hown2 : wz.ownsRow M 57 1 y' (us ++ [u]).length (i8s (uI (us ++ [u]))) := by
                  rw [← i8s_snoc, List.length_append, List.length_singleton]; exact hown
                have HQ2 := Lib.hid hown2
                have HTK2 := Lib.hid (take_dd HK3.out HTK.out (HPE3.out.trans HDD.out.symm))
                have HUS2 : Hid (∀ x ∈ us ++ [u], x < 60) := Lib.hid (fun x hx => by
                  rcases List.mem_append.1 hx with q | q
                  · exact HUS.out x q
                  · simp only [List.mem_singleton] at q; rw [q]; exact hu60)
                have hul : (us ++ [u]).length = us.length + 1 := by rw [List.length_append, List.length_singleton]
                have HUL := Lib.hid hul
                clear hown hown2 hgrow HQ HBQ HSQ HTK HUS HOQ hul
                go_wp2_with fail
                exact ⟨⟨q + 1, us ++ [u], by go_num, by omega, HUL.out.trans (by rw [HUSL.out]), HQ2, HOQ2, HTK2, HUS2, HB2, HS2⟩, by simp [intOf]; omega⟩
              · have T3 : decide ((60 : Int) ≤ (u : Int)) = true := by simp; omega
                have T3' : decide (60 ≤ u) = true := by simp; omega
                have HFIN : Hid (¬ ∃ gs, GTX s.data.toList gs) := Lib.hid (bad_part HK2.out (by
                  rw [HPE.out]
                  refine bad_num H45.out HK3.out (fun x hx e => ?_)
                  rw [HPE3.out, ← HDD.out] at e
                  have := dd_inj e
                  omega))
                go_wp2_with fail
                go_ret2
                refine ⟨.inr ⟨HFIN.out, _, rfl, gs_nil _ _ _ _⟩, ?_⟩
                rw [← HBB.out]
                exact (HBW.out.trans (HBQ.out.mono hBM)).alloc (Nat.le_trans hBM HSQ.out) _
            · have HFIN : Hid (¬ ∃ gs, GTX s.data.toList gs) := Lib.hid (bad_part HK2.out (by
                rw [HPE.out]
                refine bad_num H45.out HK3.out (fun x hx e => ?_)
                rw [HPE3.out] at e
                rw [e] at hn
                exact hn (numOk_dd (by omega))))
              have HN := Lib.hid hn
              clear hn
              go_wp2_with fail
              refine (numb_any d (by omega) _).mono ?_
              rintro e w5 ⟨⟨_, he⟩, rfl⟩
              obtain rfl := he HN.out
              unfold noNum
              go_wp2_with fail
              go_ret2
              refine ⟨.inr ⟨HFIN.out, _, rfl, gs_nil _ _ _ _⟩, ?_⟩
              rw [← HBB.out]
              exact (HBW.out.trans (HBQ.out.mono hBM)).alloc (Nat.le_trans hBM HSQ.out) _
          · obtain rfl : q = P2.length := by omega
            have T2 : decide ((P2.length : Int) < (P2.length : Int)) = false := by simp
            have hsr : SRow ((spl 32 s.data.toList).getD k []) us := .inr ⟨by rw [HPE.out]; exact H45.out, by
              rw [HPE.out]
              have e := HTK.out
              rwa [show P2.length = (spl 44 p.data.toList).length from by rw [← HP2.out, List.length_map], List.take_length] at e, HUS.out⟩
            have HSR := Lib.hid hsr
            obtain ⟨AQ, cQ, rfl, _, _⟩ := own_form HQ.out
            have hwo : Below wo.heap.size wo wr := by rw [← HM.out]; exact HBQ.out
            have hU : wr.ownsRow B 124 1 (.slice AO uss.length cO) uss.length ((List.range uss.length).map U) := own_below HOUT.out hwo
            have HU := Lib.hid hU
            have HWO := Lib.hid hwo
            have hul1 : us.length ≤ 1048577 := by omega
            clear hsr hU hwo hus
            go_wp2_with (at_builtin; refine wpList_append_own _ rfl _ _ 75 rfl (B) 124 ir (.slice none 0 0) 1 24 Tryd.underlying75 HIR.out.1 HIR.out.2.1 HIR.out.2.2.1 HIR.out.2.2.2 rfl (by decide) _ (uss.length) _ rfl (HU.out.alloc _) ⟨wr.heap.size, 0, none⟩ 1 1 [.slice AQ us.length cQ] rfl rfl ?e1 ?e2 ?e3 ?e4 ?e5 ?_)
            case e1 => exact one_cellS _ _ _
            case e2 => simp [Value.oneCell']
            case e3 => unfold maxLen; omega
            case e4 => omega
            case e5 => rw [World.size_alloc]; have := HSQ.out; omega
            intro s' wy hown hgrow _
            have hd := row_done (zs := uI us) HO.out HM.out hBM HBQ.out (by rw [uI_len]; exact HQ.out) (uI_small60 HUS.out) hgrow (by rw [List.length_map]; exact hown)
            have hd2 : ∃ U', OGU U' B wy s' ((uss ++ [us]).map uI) := by rw [List.map_append]; exact hd
            have hb2 := ((HBW.out.trans (HBQ.out.mono hBM)).alloc (Nat.le_trans hBM HSQ.out) (.cells #[.slice AQ us.length cQ] 124)).grown hgrow (by rw [World.size_alloc]; have := HSQ.out; omega) (fun x hx => (HU.out.lt x hx).1)
            have HB2 := Lib.hid hb2
            have hal2 : Below wo.heap.size wo (wr.alloc (.cells #[.slice AQ us.length cQ] 124)) := HWO.out.alloc HWO.out.size _
            have HOP3 := Lib.hid ((own_below HOP.out hal2).kept hgrow (own_ne (own_below HOP.out hal2) (own_below HOUT.out hal2) (by decide)))
            have HS2 := Lib.hid (show B ≤ wy.heap.size from Nat.le_trans (show B ≤ (wr.alloc (.cells #[.slice AQ us.length cQ] 124)).heap.size by rw [World.size_alloc]; have := HSQ.out; omega) hgrow.size)
            have HD := Lib.hid hd2
            have HK4 := Lib.hid (HK.out.step HSR.out)
            clear hown hgrow hd hd2 hb2 hal2 HO HOP HBW HS HU HQ HOQ HTK HUS HBQ HSQ HWO
            go_wp2_with fail
            obtain ⟨U', hU'⟩ := HD.out
            exact ⟨⟨k + 1, U', uss ++ [us], by go_num, by omega, HK4, Lib.hid hU', HOP3, HB2, HS2⟩, by simp [intOf]; omega⟩
    · obtain rfl : k = P.length := by omega
      have T1 : decide ((P.length : Int) < (P.length : Int)) = false := by simp
      have hPn : P.length = (spl 32 s.data.toList).length := by rw [← HP.out, List.length_map]
      have hk0 : SRK s.data.toList (spl 32 s.data.toList).length uss := by rw [← hPn]; exact HK.out
      have htot := hk0.total (by simpa using hs)
      obtain ⟨gs, hgs⟩ : ∃ gs, gs = uss.map uI := ⟨_, rfl⟩
      rw [← hgs] at htot HO
      obtain ⟨AO, cO, rfl, _, _⟩ := own_form HO.out.outer
      have HGS := Lib.hid hgs
      have HK0 := Lib.hid hk0
      have HG := Lib.hid HO.out.gs
      clear hPn hk0 hgs
      go_wp2_with fail
      refine (spec_ok _ gs htot B _ HG.out).mono ?_
      rintro e w3 ⟨rfl, rfl⟩
      cases hv : validB gs
      · have HFIN : Hid (¬ ∃ gs, GTX s.data.toList gs) := Lib.hid (by
          rintro ⟨gs', hg'⟩
          have := gtx_of_rows HK0.out.1 (fun i hi => HK0.out.2 i (by rw [← HK0.out.1]; exact hi)) hg'
          rw [← HGS.out] at this
          rw [this, ] at hg'
          rw [hg'.1] at hv
          cases hv)
        clear hv
        go_wp2_with fail
        go_ret2
        refine ⟨.inr ⟨HFIN.out, _, rfl, gs_nil _ _ _ _⟩, ?_⟩
        rw [← HBB.out]
        exact HBW.out.alloc HS.out _
      · have HFIN : Hid (GTX s.data.toList gs) := Lib.hid (by
          rw [HGS.out]
          exact rows_gtx HK0.out.1 (fun i hi => HK0.out.2 i (by rw [← HK0.out.1]; exact hi)) (by rw [← HGS.out]; exact hv))
        clear hv
        go_wp2_with fail
        go_ret2
        refine ⟨.inl ⟨gs, _, HFIN.out, rfl, ?_⟩, ?_⟩
        · rw [← HBB.out]; exact HG.out
        · rw [← HBB.out]; exact HBW.out
end Go.Proofs.YtklddmmbbaaliaaDoor
