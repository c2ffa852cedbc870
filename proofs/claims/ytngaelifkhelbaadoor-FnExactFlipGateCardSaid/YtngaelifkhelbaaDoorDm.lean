/-
  TrimCircuit of the program.
-/
import Derived.Test.YtngaelifkhelbaaDoorDl
namespace Go.Proofs.YtngaelifkhelbaaDoor
set_option linter.unusedVariables false
set_option linter.unusedSimpArgs false
open Go.ChangeShapes Go.WideShapes Go.ChangeAt Go.RowKit Go.Deep

theorem puts3 {w : World} {g : Nat} {a b c : Value} {t : TypeId} (h : w.heap[g]? = some (.cells #[a, b, c] t (0, 0))) (x y z : Value) : (w.setCells g 0 [x, y, z]).heap[g]? = some (.cells #[x, y, z] t (0, 0)) := by
  have h1 := heap_setCell_same w g 0 _ _ x h
  have h2 := heap_setCell_same _ g 1 _ _ y h1
  have h3 := heap_setCell_same _ g 2 _ _ z h2
  exact h3
theorem trT_end (n : Int) (gs : List G3) (os : List Int) (hc : circB n gs os = true) : tcN n gs os = n ∧ tcG n gs os = (trT (ndL gs os) gs gs.length).2 ∧ tcO n gs os = os.map (plc (trT (ndL gs os) gs gs.length).1) := by
  unfold tcN tcG tcO; rw [hc]; exact ⟨rfl, rfl, rfl⟩
set_option maxHeartbeats 8000000 in
set_option maxRecDepth 100000 in
theorem implTrimmed_any (n : Int) (G O : Value) (gs : List G3) (os : List Int) (hc : circB n gs os = true) (w : World) (hg : GL w G gs) (ho : IL w O os) :
    Calls Tryd.prog 80 #[.agg #[G, .int .i8 n, O]] w fun e w' => ∃ G' O', e = .returned (.agg #[G', .int .i8 n, O']) ∧ Below w.heap.size w w' ∧ w'.ownsRow w.heap.size 88 3 G' (trT (ndL gs os) gs gs.length).2.length (gcs (trT (ndL gs os) gs gs.length).2) ∧ w'.ownsRow w.heap.size 86 1 O' os.length (i16s (os.map (plc (trT (ndL gs os) gs gs.length).1))) := by
  have H := Lib.hid hg; have HO' := Lib.hid ho
  obtain ⟨A, c, rfl⟩ := hg.form
  obtain ⟨A2, c2, rfl⟩ := ho.form
  have HC := Lib.hid hc
  have hlen : gs.length ≤ 600 := (head_of hc).2.2.1
  clear hg ho hc
  obtain ⟨i0, hi, hz0, hz1, hz2⟩ := info_parts infoI16
  obtain ⟨a1, a2, hb1, s1⟩ := nw2 w (.cells #[.slice A gs.length c, .int .i8 n, .slice A2 os.length c2] 74) (.cells #[.slice none 0 0, .int .i8 0, .slice none 0 0] 74)
  go_enter Tryd.func80, Tryd.ntmps80
  go_upto_region 1 with fail
  generalize World.alloc (World.alloc w _) _ = w1 at a1 a2 hb1 s1 ⊢
  obtain ⟨z1, z2, z3⟩ := nw1 w1 (.cells #[.slice none 0 0, .int .i8 0, .slice none 0 0] 74)
  have mc : BX w1 w.heap.size (.slice A gs.length c) (.int .i8 n) (.slice A2 os.length c2) := ⟨_, a1⟩
  have mr : BX w1 (w.heap.size + 1) (.slice none 0 0) (.int .i8 0) (.slice none 0 0) := ⟨_, a2⟩
  have r3 := (show BX _ w1.heap.size _ _ _ from ⟨_, z1⟩).there
  have c0 := mc.c0; have c1 := mc.c1; have c2' := mc.c2
  have q0 := (mc.below z2).c1
  have MC := Lib.hid mc; have MR := Lib.hid mr; have HB1 := Lib.hid hb1; have HS1 := Lib.hid s1
  have Z1 := Lib.hid (puts3 z1 (.slice none 0 0) (.int .i8 n) (.slice none 0 0)); have Z2 := Lib.hid (bsets (Nat.le_refl _) [.slice none 0 0, .int .i8 n, .slice none 0 0] 0 _ z2)
  clear a1 a2 hb1 s1 mc mr z1 z2 z3
  go_upto_region 2 with (guard_target =~ wpList _ _ _ (⟨_, Op.store 74 _ _, _, _, _, _⟩ :: _) _ _; refine wpList_store_mid rfl 74 _ _ rfl (w1.heap.size) 0 #[.slice none 0 0, .int .i8 n, .slice none 0 0] rfl rfl r3 (by kernel_rfl) (three_one rfl rfl rfl) ?_)
  obtain ⟨gp, hgp⟩ : ∃ gp, gp = w1.heap.size := ⟨_, rfl⟩
  clear q0 r3
  rw [← hgp] at Z1 Z2 ⊢
  generalize World.setCells (World.alloc w1 _) _ _ _ = w2 at Z1 Z2 ⊢
  have HGP := Lib.hid hgp
  have hx2 : BX w2 gp (.slice none 0 0) (.int .i8 n) (.slice none 0 0) := ⟨_, Z1.out⟩
  have Z2' : Hid (Below w1.heap.size w1 w2) := Lib.hid (by rw [← hgp]; exact Z2.out)
  have HST : Hid (ST gp gp 74 w2 (trT (ndL gs os) gs 0).2) := Lib.hid ⟨Nat.le_refl _, ⟨_, Z1.out, by simp⟩, _, hx2.c0, World.ownsRow_nil _ _ _ _⟩
  have HX2 := Lib.hid hx2
  have c0 := (MC.out.below Z2'.out).c0
  clear c1 c2' hx2 hgp
  go_wp2_with (at_make; refine wpList_make_full _ rfl _ _ 72 rfl w2.heap.size 86 i0 (.int .i16 0) 1 Tryd.underlying72 hi hz0 hz1 _ _ _ _ gs.length rfl rfl rfl rfl (by rw [hz2]; omega) (by unfold maxLen; omega) (Nat.le_refl _) ?_)
  intro w3 hown hgrow
  have hb3 : Below w2.heap.size w2 w3 := (Below.refl _ w2).grown hgrow (Nat.le_refl _) (fun k hk => by cases hk)
  obtain ⟨P, hP⟩ : ∃ P, P = w2.heap.size := ⟨_, rfl⟩
  rw [← hP] at hown ⊢
  have hown1 : w3.ownsRow P 86 1 (.slice (some ⟨P, 0, none⟩) gs.length gs.length) gs.length (i16s (trT (ndL gs os) gs 0).1) := by
    have e : (madeCells #[Value.int .i16 0] gs.length).toList = i16s (trT (ndL gs os) gs 0).1 := by
      rw [toList_madeCells_one]; simp [trT]
    rw [← e]; simpa using hown
  clear hown hgrow
  have HP := Lib.hid hP; have HO3 := Lib.hid hown1
  have HGL : Hid (gp < w2.heap.size) := Lib.hid (by have := HX2.out.lt; exact this)
  have HA3 := Lib.hid (AD.of_below (B := gp) (gp := gp) (PT := 74) hb3 (Nat.le_refl _) HGL.out)
  have HS3 := Lib.hid (HST.out.below hb3)
  have MC3 := Lib.hid ((MC.out.below Z2'.out).below hb3)
  have c0 := MC3.out.c0; have c1 := MC3.out.c1; have c2' := MC3.out.c2
  have HB3 := Lib.hid (HB1.out.trans ((Z2'.out.trans (hb3.mono Z2'.out.size)).mono HB1.out.size))
  clear hb3 hown1 hP
  go_wp2_with fail
  refine (implNeeded_any n _ _ gs os HC.out w3 (H.out.below HB3.out) (HO'.out.below HB3.out)).mono ?_
  rintro e w4 ⟨U, rfl, hb4, hu⟩
  obtain ⟨AU, cU, rfl, _, hAU⟩ := own_formc hu
  have HAU := Lib.hid (fun (hz : 0 < gs.length) => (show ∃ g, AU = some ⟨g, 0, none⟩ from by obtain ⟨g, e, _⟩ := hAU hz; exact ⟨g, e⟩))
  have HU4 := Lib.hid hu
  have HA4 := Lib.hid (HA3.out.trans (AD.of_below (B := gp) (gp := gp) (PT := 74) hb4 (Nat.le_refl _) HS3.out.lt))
  have HS4 := Lib.hid (HS3.out.below hb4)
  have HO4 := Lib.hid (owb HO3.out hb4)
  clear hb4 hu hAU c0 c1 c2' HA3 HS3 HO3
  go_wp2_with fail
  go_loopw [17] (fun y wr => ∃ k : Nat, y = .int .i64 (k : Int) ∧ k ≤ gs.length ∧ Hid (AD gp gp 74 w2 wr) ∧ Hid (ST gp gp 74 wr (trT (ndL gs os) gs k).2) ∧ Hid (wr.ownsRow P 86 1 (.slice (some ⟨P, 0, none⟩) gs.length gs.length) gs.length (i16s (trT (ndL gs os) gs k).1)) ∧ Hid (wr.ownsRow w3.heap.size 4 1 (.slice AU gs.length cU) gs.length (bols (ndL gs os)))) (fun y _ => gs.length - (intOf y).toNat)
  case atStart => exact ⟨0, rfl, Nat.zero_le _, HA4, HS4, HO4, HU4⟩
  case round =>
    obtain ⟨k, rfl, hk, HA, HS, HO, HU⟩ := hrel
    clear HA4 HS4 HO4 HU4
    have HBR : Hid (Below w.heap.size w wr) := Lib.hid (HB1.out.trans (((Z2'.out.trans ((HGP.out ▸ HA.out.toBelow).mono (Nat.le_refl _)))).mono HB1.out.size))
    have MCR : Hid (BX wr w.heap.size (.slice A gs.length c) (.int .i8 n) (.slice A2 os.length c2)) := Lib.hid ((MC.out.below Z2'.out).belowB HA.out.toBelow (by have := HGP.out; have := HS1.out; omega))
    by_cases hlt : k < gs.length
    · obtain ⟨g, rfl⟩ := HAU.out (by omega)
      have T1 : decide ((k : Int) < (gs.length : Int)) = true := by simp; omega
      have i1 : (k : Int) < (gs.length : Int) := by omega
      obtain ⟨nd, hnd⟩ : ∃ nd, nd = (ndL gs os).getD k false := ⟨_, rfl⟩
      have va : wr.cell? ⟨g, k, none⟩ = some (.bool nd) := by
        rw [HU.out.cellAt k (by omega), List.getElem?_map, hnd, List.getD, List.getElem?_eq_getElem (by rw [ndL_len]; exact hlt)]; rfl
      have HND := Lib.hid hnd
      clear hnd
      cases nd with
      | false =>
        have HE := Lib.hid (trT_no (gs := gs) HND.out.symm)
        go_wp2_with fail
        exact ⟨⟨k + 1, by go_num, by omega, HA, by rw [HE.out]; exact HS, by rw [HE.out]; exact HO, HU⟩, by simp [intOf]; omega⟩
      | true =>
        obtain ⟨b, off, c', e, hlb, hgw, d0, d1, d2⟩ := (H.out.below HBR.out).at k hlt
        cases e
        obtain ⟨x, hx⟩ : ∃ x, x = gs.getD k gz := ⟨_, rfl⟩
        have HE := Lib.hid (trT_yes (gs := gs) HND.out.symm)
        rw [← hx] at d0 d1 d2 HE
        have HV := Lib.hid (show joinB x = true → (0 ≤ x.2.1 ∧ x.2.1 < (gs.length : Int)) ∧ 0 ≤ x.2.2 ∧ x.2.2 < (gs.length : Int) from fun hj => by
          have hgt := gate_of HC.out k hlt
          rw [← hx] at hgt
          rcases kinds_of hgt with ⟨h0, _⟩ | ⟨h0, _⟩ | h3
          · unfold joinB at hj; rw [h0] at hj; simp at hj
          · unfold joinB at hj; rw [h0] at hj; simp at hj
          · omega)
        obtain ⟨kd, a, bb⟩ := x
        simp only at d0 d1 d2
        obtain ⟨T, hT⟩ : ∃ T, T = (trT (ndL gs os) gs k) := ⟨_, rfl⟩
        rw [← hT] at HS HO HE
        have hl := trT_len (ndL gs os) gs k
        rw [← hT] at hl
        have HL := Lib.hid hl
        have c0 := MCR.out.c0
        clear hl hT hx hgw
        go_wp2_with fail
        refine (implRen_any (kd, a, bb) P P gs.length T.1 HL.out.1 HV.out wr HO.out).mono ?_
        rintro e w5 ⟨rfl, hb5⟩
        have HA5 := Lib.hid (HA.out.trans (AD.of_below (B := gp) (gp := gp) (PT := 74) hb5 (Nat.le_refl _) HS.out.lt))
        have HS5 := Lib.hid (HS.out.below hb5); have HO5 := Lib.hid (owb HO.out hb5); have HU5 := Lib.hid (owb HU.out hb5)
        obtain ⟨rg, hrg⟩ : ∃ rg, rg = ren T.1 (kd, a, bb) := ⟨_, rfl⟩
        rw [← hrg]
        rw [← hrg] at HE
        clear hb5 hrg d0 d1 d2 c0 va HA HS HO HU
        go_wp2_with fail
        refine (implAdd_any gp gp 74 (by decide) rg T.2 (by have := HL.out.2; omega) w5 HS5.out).mono ?_
        rintro e w6 ⟨rfl, hs6, ha6⟩
        have HA6 := Lib.hid (HA5.out.trans ha6)
        have HS6 := Lib.hid hs6
        have HO6 := Lib.hid (own_ad gt_i16 (by decide) HO5.out ha6)
        have HU6 := Lib.hid (own_ad (by decide) (by decide) HU5.out ha6)
        clear hs6 ha6 HA5 HS5 HO5 HU5
        obtain ⟨tn, htn⟩ : ∃ tn, tn = T.2.length := ⟨_, rfl⟩
        rw [← htn] at HE ⊢
        obtain ⟨y0, hy0⟩ : ∃ y, (i16s T.1)[k]? = some y := ⟨_, List.getElem?_eq_getElem (by rw [List.length_map, HL.out.1]; exact hlt)⟩
        have p2 : w6.cell? ⟨P, k, none⟩ = some y0 := (HO6.out.cellAt k (by omega)).trans hy0
        have p3 : w6.frozen? ⟨P, k, none⟩ = false := HO6.out.frozenAt k
        have h4 := (HO6.out.stored k (.int .i16 (tn : Int))).1
        rw [← List.map_set] at h4
        have H4 := Lib.hid h4
        have HGR := Lib.hid (grown_putd w6 P k (.int .i16 (tn : Int)))
        have H5 := Lib.hid (HA6.out.after HGR.out (fun z hz => by have := HP.out; cases hz; omega) (Nat.le_refl _) HGL.out)
        have H6 := Lib.hid (HS6.out.grown (by decide) HGR.out (fun z hz => by
          cases hz
          obtain ⟨cr, h⟩ := own_type HO6.out P rfl
          exact ⟨cr, _, h⟩))
        have H7 := Lib.hid (own_grown HU6.out HGR.out (fun z hz e => by
          cases e
          obtain ⟨cr, h⟩ := own_type HO6.out P rfl
          obtain ⟨cr2, h2⟩ := own_type HU6.out P hz
          rw [h] at h2; cases h2))
        clear h4 hy0 htn HA6 HS6 HO6 HU6 HGR
        go_wp2_with fail
        exact ⟨⟨k + 1, by go_num, by omega, H5, by rw [HE.out]; exact H6, by rw [HE.out]; exact H4, H7⟩, by simp [intOf]; omega⟩
    · obtain rfl : k = gs.length := by omega
      have T1 : decide ((gs.length : Int) < (gs.length : Int)) = false := by simp
      obtain ⟨T, hT⟩ : ∃ T, T = (trT (ndL gs os) gs gs.length) := ⟨_, rfl⟩
      rw [← hT] at HS HO
      have HTT := Lib.hid hT
      have hl := trT_len (ndL gs os) gs gs.length
      rw [← hT] at hl
      have HL := Lib.hid hl
      have c2' := MCR.out.c2
      clear hl hT HU
      go_wp2_with fail
      refine (implRenL_any _ os T.1 P P gs.length HL.out.1 (fun j hj => out_of HC.out j hj) (by have := (head_of HC.out).2.2.2; omega) wr (HO'.out.below HBR.out) HO.out).mono ?_
      rintro e w5 ⟨r, rfl, hb5, hro⟩
      obtain ⟨AR, cR, rfl, _, _⟩ := own_formu hro
      have HB5 := Lib.hid hb5
      have hst := HS.out.below hb5
      obtain ⟨_, ⟨cur, hcur, _⟩, v5, hv5, hov5⟩ := hst
      obtain ⟨AG, cG, rfl, _, _⟩ := own_formu hov5
      have had := HA.out.trans (AD.of_below (B := gp) (gp := gp) (PT := 74) hb5 (Nat.le_refl _) HS.out.lt)
      have k1 : w5.cell? ⟨gp, 1, none⟩ = some (.int .i8 n) := (had.off 1 (by decide)).trans HX2.out.c1
      have k2 : w5.cell? ⟨gp, 2, none⟩ = some (.slice none 0 0) := (had.off 2 (by decide)).trans HX2.out.c2
      have k3 : w5.frozen? ⟨gp, 2, none⟩ = false := frozen_of_row _ _ _ _ _ hcur
      obtain ⟨q0, q1, q2⟩ := cells2 hcur hv5 k1 _ (.slice AR os.length cR) k2
      have hgt := grown_putd w5 gp 2 (.slice AR os.length cR)
      have o6 := own_grown hov5 hgt (fun k hk e => by
        obtain ⟨cr, h⟩ := own_type hov5 k hk
        cases e
        rw [hcur] at h; cases h)
      have p6 := own_grown hro hgt (fun k hk e => by
        obtain ⟨cr, h⟩ := own_type hro k hk
        cases e
        rw [hcur] at h; cases h)
      have S12 : Hid (w.heap.size + 2 = gp) := Lib.hid (by have := HS1.out; have := HGP.out; omega)
      have b6 : Below w.heap.size w (w5.setCell ⟨gp, 2, none⟩ (.slice AR os.length cR)) := (HBR.out.trans (HB5.out.mono HBR.out.size)).setCell (p := ⟨gp, 2, none⟩) (by show w.heap.size ≤ gp; have := S12.out; omega) _
      have m6 := (((MR.out.below Z2'.out).belowB HA.out.toBelow (by have := S12.out; omega)).below HB5.out).other (k := gp) (o := 2) (by have := S12.out; omega) (.slice AR os.length cR)
      have hwg : w.heap.size ≤ wr.heap.size := HBR.out.size
      have O6 := Lib.hid (own_low o6 (show w.heap.size ≤ gp from by have := S12.out; omega)); have P6 := Lib.hid (own_low p6 hwg); have B6 := Lib.hid b6; have M6 := Lib.hid m6
      have O6b := Lib.hid o6; have P6b := Lib.hid p6
      obtain ⟨na, hna⟩ : ∃ na, na = T.2.length := ⟨_, rfl⟩
      rw [← hna] at q0 O6 O6b
      have HNA := Lib.hid hna
      have r6 := M6.out.there
      have GPS := Lib.hid (show gp ≤ wr.heap.size from by have := HA.out.size; have := HGL.out; omega)
      clear hcur hv5 hov5 hgt o6 p6 b6 m6 had hro hb5 hna hwg c2' HO HS
      generalize hw6 : w5.setCell ⟨gp, 2, none⟩ (.slice AR os.length cR) = w6 at q0 q1 q2 O6 P6 B6 M6 O6b P6b r6
      go_wp2_with (guard_target =~ wpList _ _ _ (⟨_, Op.store 74 _ _, _, _, _, _⟩ :: _) _ _; refine wpList_store_mid rfl 74 _ _ rfl (w.heap.size + 1) 0 #[.slice AG na cG, .int .i8 n, .slice AR os.length cR] rfl rfl r6 (by kernel_rfl) (three_one rfl rfl rfl) ?_)
      obtain ⟨t8, h8⟩ := M6.out.puts (.slice AG na cG) (.int .i8 n) (.slice AR os.length cR)
      refine bodyPost_ret (v := .agg #[.slice AG na cG, .int .i8 n, .slice AR os.length cR]) ?_ rfl ⟨_, _, rfl, bsets (by omega) _ 0 w6 B6.out, ?_, ?_⟩
      · exact results_cell_row rfl _ _ (w.heap.size + 1) _ _ (0, 0) _ rfl h8 Tryd.underlying74 rfl (by kernel_rfl)
      · rw [← HTT.out, ← HNA.out]; exact own_low (own_sets O6b.out (by have := S12.out; omega) _ 0) (by have := S12.out; omega)
      · rw [← HTT.out]; exact own_low (own_sets P6b.out (by have := GPS.out; have := S12.out; omega) _ 0) (by have := GPS.out; have := S12.out; omega)

theorem tc_gw {n : Int} {gs : List G3} {os : List Int} (hc : circB n gs os = true) (hg : ∀ g ∈ gs, GW g) : (∀ g ∈ (trT (ndL gs os) gs gs.length).2, GW g) ∧ ∀ z ∈ os.map (plc (trT (ndL gs os) gs gs.length).1), IW z := by
  have h := trT_w (ndL gs os) gs (fun j => gw_getD hg j) gs.length (head_of hc).2.2.1
  refine ⟨h.2, fun z hz => ?_⟩
  obtain ⟨y, _, rfl⟩ := List.mem_map.1 hz
  exact h.1.w y

set_option maxHeartbeats 4000000 in
set_option maxRecDepth 100000 in
theorem impl_TrimCircuit (v : Value) (n : Int) (gs : List G3) (os : List Int) (w : World) (h : CI w v n gs os) (hE : ET w) :
    Calls Tryd.prog 42 #[v] w fun e w' => ∃ u, e = .returned (.tuple #[u, .int .i64 (okC n gs os)]) ∧ Below w.heap.size w w' ∧ CO w.heap.size w'.heap.size w' u (tcN n gs os) (tcG n gs os) (tcO n gs os) := by
  have HE := Lib.hid hE
  clear hE
  have H := Lib.hid h
  obtain ⟨G, O, rfl, hn, hg, ho⟩ := h
  have HG := Lib.hid hg; have HO := Lib.hid ho
  obtain ⟨A, c, rfl⟩ := hg.form
  obtain ⟨A2, c2, rfl⟩ := ho.form
  clear hg ho
  cases hc : circB n gs os with
  | false =>
    have eN : tcN n gs os = 0 := by unfold tcN; rw [hc]; rfl
    have eG : tcG n gs os = [] := by unfold tcG; rw [hc]; rfl
    have eO : tcO n gs os = [] := by unfold tcO; rw [hc]; rfl
    have eK : okC n gs os = 1 := by unfold okC; rw [hc]; rfl
    rw [eN, eG, eO, eK]
    have HCF := Lib.hid hc
    clear eN eG eO eK hc
    obtain ⟨a1, a2, hb1, s1⟩ := nw2 w (.cells #[.int .i8 n, .slice A gs.length c, .slice A2 os.length c2] 33) (.cells #[.int .i8 0, .slice none 0 0, .slice none 0 0] 33)
    go_enter Tryd.func42, Tryd.ntmps42
    go_wp2_with fail
    generalize World.alloc (World.alloc w _) _ = w1 at a1 a2 hb1 s1 ⊢
    refine (openCircuit_any n _ _ gs os w1 (H.out.below hb1)).mono ?_
    rintro e w2 ⟨rfl, hb⟩
    have M2 : Hid (BX w2 (w.heap.size + 1) (.int .i8 0) (.slice none 0 0) (.slice none 0 0)) := Lib.hid (BX.below ⟨_, a2⟩ hb)
    have HB2 := Lib.hid (hb1.trans (hb.mono hb1.size))
    have HS1 := Lib.hid s1
    have HWS : Hid (w.heap.size + 2 ≤ w2.heap.size) := Lib.hid (by have := hb.size; omega)
    clear hb hb1 a1 a2 s1
    simp only [opW, HCF.out, Bool.false_eq_true, if_false]
    have HB4 := Lib.hid (nw1 w2 (.cells #[.slice none 0 0, .int .i8 0, .slice none 0 0] 74)).2.1
    go_wp2_with fail
    refine (reasonOf_bad 1 _ (HE.out.below (HB2.out.trans (HB4.out.mono HB2.out.size)))).mono ?_
    rintro e w3 ⟨rfl, hb3⟩
    have m3 := (M2.out.below HB4.out).below hb3
    have HB3 := Lib.hid (HB2.out.trans ((HB4.out.trans (hb3.mono HB4.out.size)).mono HB2.out.size))
    have r3 := m3.there
    have M3 := Lib.hid m3
    clear m3 hb3
    go_wp2_with (guard_target =~ wpList _ _ _ (⟨_, Op.store 33 _ _, _, _, _, _⟩ :: _) _ _; refine wpList_store_mid rfl 33 _ _ rfl (w.heap.size + 1) 0 #[.int .i8 0, .slice none 0 0, .slice none 0 0] rfl rfl r3 (by kernel_rfl) (three_one rfl rfl rfl) ?_)
    obtain ⟨t8, h8⟩ := M3.out.puts (.int .i8 0) (.slice none 0 0) (.slice none 0 0)
    refine bodyPost_ret (v := .tuple #[.agg #[.int .i8 0, .slice none 0 0, .slice none 0 0], .int .i64 1]) ?_ rfl ⟨_, rfl, bsets (by omega) _ 0 w3 HB3.out, ⟨.slice none 0 0, .slice none 0 0, rfl, by omega, by simp, by simp, World.ownsRow_nil _ _ _ _, World.ownsRow_nil _ _ _ _, by simp [Value.ownBlock], by simp [Value.ownBlock], by simp [Value.ownBlock]⟩⟩
    exact results_cell_tmp rfl _ _ (w.heap.size + 1) _ _ (0, 0) _ _ rfl rfl h8 Tryd.underlying33 rfl (by kernel_rfl)
  | true =>
    obtain ⟨eN, eG, eO⟩ := trT_end n gs os hc
    have eK : okC n gs os = 0 := by unfold okC; rw [hc]; rfl
    have HGW := Lib.hid ((tc_gw hc HG.out.2).1)
    have HIW := Lib.hid ((tc_gw hc HG.out.2).2)
    rw [eN, eG, eO, eK]
    have HC := Lib.hid hc
    clear eN eG eO eK hc
    obtain ⟨a1, a2, hb1, s1⟩ := nw2 w (.cells #[.int .i8 n, .slice A gs.length c, .slice A2 os.length c2] 33) (.cells #[.int .i8 0, .slice none 0 0, .slice none 0 0] 33)
    go_enter Tryd.func42, Tryd.ntmps42
    go_wp2_with fail
    generalize World.alloc (World.alloc w _) _ = w1 at a1 a2 hb1 s1 ⊢
    refine (openCircuit_any n _ _ gs os w1 (H.out.below hb1)).mono ?_
    rintro e w2 ⟨rfl, hb⟩
    have M2 : Hid (BX w2 (w.heap.size + 1) (.int .i8 0) (.slice none 0 0) (.slice none 0 0)) := Lib.hid (BX.below ⟨_, a2⟩ hb)
    have HB2 := Lib.hid (hb1.trans (hb.mono hb1.size))
    have HS1 := Lib.hid s1
    have HWS : Hid (w.heap.size + 2 ≤ w2.heap.size) := Lib.hid (by have := hb.size; omega)
    clear hb hb1 a1 a2 s1
    simp only [opW, HC.out, if_true]
    have HB4 := Lib.hid (nw1 w2 (.cells #[.slice A gs.length c, .int .i8 n, .slice A2 os.length c2] 74)).2.1
    go_wp2_with fail
    have HB24 := Lib.hid (HB2.out.trans (HB4.out.mono HB2.out.size))
    refine (implTrimmed_any n _ _ gs os HC.out _ (HG.out.below HB24.out) (HO.out.below HB24.out)).mono ?_
    rintro e w5 ⟨G5, O5, rfl, hb5, hg5, ho5⟩
    obtain ⟨AG, cG, rfl, _, _⟩ := own_formu hg5
    obtain ⟨AO, cO, rfl, _, _⟩ := own_formu ho5
    obtain ⟨na, hna⟩ : ∃ na, na = (trT (ndL gs os) gs gs.length).2.length := ⟨_, rfl⟩
    rw [← hna] at hg5 ⊢
    have HNA := Lib.hid hna
    have HG5 := Lib.hid hg5; have HO5 := Lib.hid ho5
    have M5 := Lib.hid ((M2.out.below HB4.out).below hb5)
    have B5 := Lib.hid (HB24.out.trans (hb5.mono HB24.out.size))
    have HW4 := Lib.hid (show w.heap.size + 2 ≤ (w2.alloc (.cells #[.slice A gs.length c, .int .i8 n, .slice A2 os.length c2] 74)).heap.size from by rw [World.size_alloc]; have := HWS.out; omega)
    clear hb5 hg5 ho5 hna
    go_wp2_with fail
    refine (circuit_any _ _ _ _ _ _ _ _ _ rfl rfl w5).mono ?_
    rintro e w7 ⟨rfl, hb7⟩
    have m7 := M5.out.below hb7
    have r7 := m7.there
    have M7 := Lib.hid m7
    have B7 := Lib.hid (B5.out.trans (hb7.mono B5.out.size))
    have O7 := Lib.hid (owb HG5.out hb7); have P7 := Lib.hid (owb HO5.out hb7)
    have TYP := Lib.hid (show ∀ k, (Value.slice AG na cG).ownBlock = some k → (Value.slice AO os.length cO).ownBlock ≠ some k from fun k hk hk2 => by
      obtain ⟨c1, h1⟩ := own_type O7.out k hk
      obtain ⟨c2, h2⟩ := own_type P7.out k hk2
      rw [h1] at h2; cases h2)
    clear m7 hb7
    go_wp2_with (guard_target =~ wpList _ _ _ (⟨_, Op.store 33 _ _, _, _, _, _⟩ :: _) _ _; refine wpList_store_mid rfl 33 _ _ rfl (w.heap.size + 1) 0 #[.int .i8 n, .slice AG na cG, .slice AO os.length cO] rfl rfl r7 (by kernel_rfl) (three_one rfl rfl rfl) ?_)
    obtain ⟨t8, h8⟩ := M7.out.puts (.int .i8 n) (.slice AG na cG) (.slice AO os.length cO)
    have HON := Lib.hid (show (os.map (plc (trT (ndL gs os) gs gs.length).1)).length = os.length from List.length_map _)
    refine bodyPost_ret (v := .tuple #[.agg #[.int .i8 n, .slice AG na cG, .slice AO os.length cO], .int .i64 0]) ?_ rfl ⟨_, rfl, bsets (by omega) _ 0 w7 B7.out, _, _, rfl, hn, HGW.out, HIW.out, ?_, ?_, ?_, ?_, ?_⟩
    · exact results_cell_tmp rfl _ _ (w.heap.size + 1) _ _ (0, 0) _ _ rfl rfl h8 Tryd.underlying33 rfl (by kernel_rfl)
    · rw [← HNA.out]; exact own_low (own_sets O7.out (by have := HW4.out; omega) _ 0) (by have := HW4.out; omega)
    · rw [HON.out]; exact own_low (own_sets P7.out (by have := HW4.out; omega) _ 0) (by have := HW4.out; omega)
    · intro k hk; exact (own_block (own_sets O7.out (show w.heap.size + 1 < _ from by have := HW4.out; omega) _ 0) k hk).2
    · intro k hk; exact (own_block (own_sets P7.out (show w.heap.size + 1 < _ from by have := HW4.out; omega) _ 0) k hk).2
    · exact TYP.out

end Go.Proofs.YtngaelifkhelbaaDoor
