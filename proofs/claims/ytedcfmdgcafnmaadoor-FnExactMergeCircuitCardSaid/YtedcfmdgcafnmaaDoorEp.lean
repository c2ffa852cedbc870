/-
  MergeCircuit of the model.
-/
import Derived.Test.YtedcfmdgcafnmaaDoorDn
import Derived.Test.YtedcfmdgcafnmaaDoorEo
import Derived.Deep.QuietTactic
import Derived.BigQuiet
namespace Go.Proofs.YtedcfmdgcafnmaaDoor
set_option linter.unusedVariables false
set_option linter.unusedSimpArgs false
open Go.ChangeShapes Go.WideShapes Go.ChangeAt Go.RowKit Go.Deep

theorem g3_neM {x y : G3} (h : x ≠ y) : x.1 ≠ y.1 ∨ (x.1 = y.1 ∧ x.2.1 ≠ y.2.1) ∨ (x.1 = y.1 ∧ x.2.1 = y.2.1 ∧ x.2.2 ≠ y.2.2) := by
  by_cases h1 : x.1 = y.1
  · by_cases h2 : x.2.1 = y.2.1
    · exact Or.inr (Or.inr ⟨h1, h2, fun h3 => h (Prod.ext h1 (Prod.ext h2 h3))⟩)
    · exact Or.inr (Or.inl ⟨h1, h2⟩)
  · exact Or.inl h1
theorem idx_here {l : List G3} {g : G3} {a : Nat} (h : a < l.length) (e : g = l.getD a gz) (hi : a ≤ l.idxOf g) : l.idxOf g = a ∧ g ∈ l := by
  have e2 : l[a] = g := by rw [e, List.getD, List.getElem?_eq_getElem h]; rfl
  refine ⟨?_, e2 ▸ List.getElem_mem h⟩
  rcases Nat.lt_or_ge a (l.idxOf g) with h1 | h1
  · have := List.not_of_lt_findIdx (p := (· == g)) (xs := l) (i := a) h1
    simp [e2] at this
  · omega
theorem idx_on {l : List G3} {g z : G3} {a : Nat} (h : a < l.length) (e : z = l.getD a gz) (hn : z ≠ g) (hi : a ≤ l.idxOf g) : a + 1 ≤ l.idxOf g := by
  rcases Nat.lt_or_ge a (l.idxOf g) with h1 | h1
  · exact h1
  · exfalso
    have h2 : l.idxOf g = a := by omega
    have e2 : l[a] = z := by rw [e, List.getD, List.getElem?_eq_getElem h]; rfl
    have h3 : l[l.idxOf g]'(by omega) = g := List.getElem_idxOf (by omega)
    apply hn
    rw [← e2, ← h3]
    congr 1
    exact h2.symm
theorem idx_end {l : List G3} {g : G3} (h : l.length ≤ l.idxOf g) : g ∉ l ∧ l.idxOf g = l.length :=
  ⟨fun hm => absurd (List.idxOf_lt_length_of_mem hm) (by omega), Nat.le_antisymm List.idxOf_le_length h⟩

set_option maxHeartbeats 8000000 in
set_option maxRecDepth 100000 in
theorem spec_MergeCircuit (v : Value) (n : Int) (gs : List G3) (os : List Int) (w : World) (h : CI w v n gs os) :
    Calls Tryd.prog 10 #[v] w fun e w' => ∃ u, e = .returned (.tuple #[u, .int .i64 (okC n gs os)]) ∧ Below w.heap.size w w' ∧ CO w.heap.size w'.heap.size w' u (mcN n gs os) (mcG n gs os) (mcO n gs os) := by
  have H := Lib.hid h
  obtain ⟨G, O, rfl, hn, hg, ho⟩ := h
  have HG := Lib.hid hg; have HO := Lib.hid ho
  obtain ⟨A, c, rfl⟩ := hg.form
  obtain ⟨A2, c2, rfl⟩ := ho.form
  clear hg ho
  cases hc : circB n gs os with
  | false =>
    have eN : mcN n gs os = 0 := by unfold mcN; rw [hc]; rfl
    have eG : mcG n gs os = [] := by unfold mcG; rw [hc]; rfl
    have eO : mcO n gs os = [] := by unfold mcO; rw [hc]; rfl
    have eK : okC n gs os = 1 := by unfold okC; rw [hc]; rfl
    rw [eN, eG, eO, eK]
    have HCF := Lib.hid hc
    clear eN eG eO eK hc
    obtain ⟨a1, a2, hb1, s1⟩ := nw2 w (.cells #[.int .i8 n, .slice A gs.length c, .slice A2 os.length c2] 30) (.cells #[.int .i8 0, .slice none 0 0, .slice none 0 0] 30)
    go_enter Tryd.func10, Tryd.ntmps10
    go_wp2_with fail
    generalize World.alloc (World.alloc w _) _ = w1 at a1 a2 hb1 s1 ⊢
    refine (l07Ok_any w.heap.size n _ _ gs os w1 ⟨_, a1⟩ hn (HG.out.below hb1) (HO.out.below hb1)).mono ?_
    rintro e w2 ⟨rfl, hb⟩
    have M2 : Hid (BX w2 (w.heap.size + 1) (.int .i8 0) (.slice none 0 0) (.slice none 0 0)) := Lib.hid (BX.below ⟨_, a2⟩ hb)
    have C2 : Hid (BX w2 w.heap.size (.int .i8 n) (.slice A gs.length c) (.slice A2 os.length c2)) := Lib.hid (BX.below ⟨_, a1⟩ hb)
    have HB2 := Lib.hid (hb1.trans (hb.mono hb1.size))
    have HWS : Hid (w.heap.size + 2 ≤ w2.heap.size) := Lib.hid (by have := hb.size; omega)
    clear hb hb1 a1 a2 s1
    rw [HCF.out]
    have r2 := M2.out.there
    go_wp2_with (guard_target =~ wpList _ _ _ (⟨_, Op.store 30 _ _, _, _, _, _⟩ :: _) _ _; refine wpList_store_mid rfl 30 _ _ rfl (w.heap.size + 1) 0 #[.int .i8 0, .slice none 0 0, .slice none 0 0] rfl rfl r2 (by kernel_rfl) (three_one rfl rfl rfl) ?_)
    obtain ⟨t8, h8⟩ := M2.out.puts (.int .i8 0) (.slice none 0 0) (.slice none 0 0)
    refine bodyPost_ret (v := .tuple #[.agg #[.int .i8 0, .slice none 0 0, .slice none 0 0], .int .i64 1]) ?_ rfl ⟨_, rfl, bsets (by omega) _ 0 w2 HB2.out, ⟨.slice none 0 0, .slice none 0 0, rfl, by omega, by simp, by simp, World.ownsRow_nil _ _ _ _, World.ownsRow_nil _ _ _ _, by simp [Value.ownBlock], by simp [Value.ownBlock], by simp [Value.ownBlock]⟩⟩
    exact results_cell_tmp rfl _ _ (w.heap.size + 1) _ _ (0, 0) _ _ rfl rfl h8 Tryd.underlying30 rfl (by kernel_rfl)
  | true =>
    obtain ⟨eN, eG, eO⟩ := mc_end n gs os hc
    have eK : okC n gs os = 0 := by unfold okC; rw [hc]; rfl
    have HGW := Lib.hid (mc_gw hc HG.out.2).1
    have HIW := Lib.hid (mc_gw hc HG.out.2).2
    rw [eN, eG, eO, eK]
    have HC := Lib.hid hc
    have hlen : gs.length ≤ 600 := (head_of hc).2.2.1
    have hol : os.length ≤ 16 := (head_of hc).2.2.2
    clear eN eG eO eK hc
    obtain ⟨i0, hi, hz0, hz1, hz2⟩ := info_parts infoI16
    obtain ⟨j0, ji, jz0, jz1, jz2⟩ := info_parts infoGate
    have HI := Lib.hid hi; have HZ0 := Lib.hid hz0; have HZ1 := Lib.hid hz1; have HZ2 := Lib.hid hz2
    have JI := Lib.hid ji; have JZ0 := Lib.hid jz0; have JZ1 := Lib.hid jz1; have JZ2 := Lib.hid jz2
    clear ji jz0 jz1 jz2
    obtain ⟨a1, a2, hb1, s1⟩ := nw2 w (.cells #[.int .i8 n, .slice A gs.length c, .slice A2 os.length c2] 30) (.cells #[.int .i8 0, .slice none 0 0, .slice none 0 0] 30)
    go_enter Tryd.func10, Tryd.ntmps10
    go_wp2_with fail
    generalize World.alloc (World.alloc w _) _ = w1 at a1 a2 hb1 s1 ⊢
    refine (l07Ok_any w.heap.size n _ _ gs os w1 ⟨_, a1⟩ hn (HG.out.below hb1) (HO.out.below hb1)).mono ?_
    rintro e w2 ⟨rfl, hb⟩
    have M2 : Hid (BX w2 (w.heap.size + 1) (.int .i8 0) (.slice none 0 0) (.slice none 0 0)) := Lib.hid (BX.below ⟨_, a2⟩ hb)
    have C2 : Hid (BX w2 w.heap.size (.int .i8 n) (.slice A gs.length c) (.slice A2 os.length c2)) := Lib.hid (BX.below ⟨_, a1⟩ hb)
    have HB2 := Lib.hid (hb1.trans (hb.mono hb1.size))
    have HWS : Hid (w.heap.size + 2 ≤ w2.heap.size) := Lib.hid (by have := hb.size; omega)
    clear hb hb1 a1 a2 s1
    rw [HC.out]
    obtain ⟨w3, hw3⟩ : ∃ w3, w3 = w2 := ⟨_, rfl⟩
    rw [← hw3] at M2 C2 HB2 HWS ⊢
    clear hw3
    have HB3 := HB2
    have C3 := C2; have M3 := M2
    have HW3 := HWS
    have c0 := C3.out.c0; have c1 := C3.out.c1; have c2' := C3.out.c2
    go_wp2_with (at_make; refine wpList_make_full _ rfl _ _ 24 rfl w3.heap.size 65 i0 (.int .i16 0) 1 Tryd.underlying24 hi hz0 hz1 _ _ _ _ gs.length rfl rfl rfl rfl (by rw [hz2]; omega) (by unfold maxLen; omega) (Nat.le_refl _) ?_)
    intro w4 hown hgrow
    have hb4 : Below w3.heap.size w3 w4 := (Below.refl _ w3).grown hgrow (Nat.le_refl _) (fun k hk => by cases hk)
    obtain ⟨P, hP⟩ : ∃ P, P = w3.heap.size := ⟨_, rfl⟩
    have hown1 : w4.ownsRow w3.heap.size 65 1 (.slice (some ⟨P, 0, none⟩) gs.length gs.length) gs.length (i16s (mgT gs 0).1) := by
      have e : (madeCells #[Value.int .i16 0] gs.length).toList = i16s (mgT gs 0).1 := by
        rw [toList_madeCells_one]; simp [mgT]
      rw [← e, hP]; simpa using hown
    rw [← hP]
    clear hown hgrow hi hz0 hz1 hz2 c0 c1 c2'
    obtain ⟨z1, z2, z3⟩ := nw1 w4 (.cells #[.int .i8 0, .slice none 0 0, .slice none 0 0] 30)
    have r4 := (show BX _ w4.heap.size _ _ _ from ⟨_, z1⟩).there
    have HPS := Lib.hid (own_block hown1 P rfl)
    have HB4 := Lib.hid hb4; have HO4 := Lib.hid hown1
    have Z1 := Lib.hid (puts3 z1 (.int .i8 n) (.slice none 0 0) (.slice none 0 0)); have Z2 := Lib.hid (bsets (Nat.le_refl _) [.int .i8 n, .slice none 0 0, .slice none 0 0] 0 _ z2)
    have c0 := (C3.out.below hb4).c0
    have q0 := ((C3.out.below hb4).below z2).c0
    have ZS : Hid (w4.heap.size < ((w4.alloc (.cells #[.int .i8 0, .slice none 0 0, .slice none 0 0] 30)).setCells w4.heap.size 0 [.int .i8 n, .slice none 0 0, .slice none 0 0]).heap.size) := Lib.hid (Nat.lt_of_lt_of_le (Nat.lt_of_lt_of_le (Nat.lt_succ_self _) (Nat.le_of_eq z3.symm)) (bsets (Nat.zero_le _) _ 0 _ (Below.refl 0 _)).size)
    clear z1 z2 z3 hb4 hown1 hP
    go_upto_region 5 with (guard_target =~ wpList _ _ _ (⟨_, Op.store 30 _ _, _, _, _, _⟩ :: _) _ _; refine wpList_store_mid rfl 30 _ _ rfl (w4.heap.size) 0 #[.int .i8 n, .slice none 0 0, .slice none 0 0] rfl rfl r4 (by kernel_rfl) (three_one rfl rfl rfl) ?_)
    obtain ⟨gp, hgp⟩ : ∃ gp, gp = w4.heap.size := ⟨_, rfl⟩
    clear c0 q0 r4
    rw [← hgp] at Z1 Z2 ZS ⊢
    have HTI : Hid (TI w3 P gp gs.length n (mgT gs 0).1 (mgT gs 0).2 [] (((w4.alloc (.cells #[.int .i8 0, .slice none 0 0, .slice none 0 0] 30)).setCells gp 0 [.int .i8 n, .slice none 0 0, .slice none 0 0]))) := Lib.hid
      ⟨HB4.out.trans (Z2.out.mono (by have := HB4.out.size; omega)), owb HO4.out (by rw [← hgp]; exact Z2.out), ⟨by have := HPS.out.2; omega, ZS.out⟩, _, _, Z1.out, World.ownsRow_nil _ _ _ _, World.ownsRow_nil _ _ _ _⟩
    generalize World.setCells (World.alloc w4 _) _ _ _ = w5 at HTI ⊢
    clear HPS HB4 HO4 Z1 Z2 ZS hgp
    go_wp2_with fail
    go_loopw [6] (fun y wr => ∃ k : Nat, y = .int .i64 (k : Int) ∧ k ≤ gs.length ∧ Hid (TI w3 P gp gs.length n (mgT gs k).1 (mgT gs k).2 [] wr)) (fun y _ => gs.length - (intOf y).toNat)
    case atStart => exact ⟨0, rfl, Nat.zero_le _, HTI⟩
    case round =>
      obtain ⟨k, rfl, hk, HT⟩ := hrel
      clear HTI
      have CR := Lib.hid (C3.out.below HT.out.1)
      have c1 := CR.out.c1
      by_cases hlt : k < gs.length
      · have T1 : decide ((k : Int) < (gs.length : Int)) = true := by simp; omega
        have i1 : (k : Int) < (gs.length : Int) := by omega
        obtain ⟨b, off, c', e, hlb, hgw, d0, d1, d2⟩ := (HG.out.below (HB3.out.trans (HT.out.1.mono HB3.out.size))).at k hlt
        cases e
        obtain ⟨x, hx⟩ : ∃ x, x = gs.getD k gz := ⟨_, rfl⟩
        have HE := Lib.hid (show mgT gs (k + 1) = ((mgT gs k).1.set k (((mgT gs k).2.idxOf (srt (ren (mgT gs k).1 (gs.getD k gz))) : Nat) : Int), if srt (ren (mgT gs k).1 (gs.getD k gz)) ∈ (mgT gs k).2 then (mgT gs k).2 else (mgT gs k).2 ++ [srt (ren (mgT gs k).1 (gs.getD k gz))]) from rfl)
        rw [← hx] at d0 d1 d2 HE
        have HV := Lib.hid (show joinB x = true → (0 ≤ x.2.1 ∧ x.2.1 < (gs.length : Int)) ∧ 0 ≤ x.2.2 ∧ x.2.2 < (gs.length : Int) from fun hj => by
          have hgt := gate_of HC.out k hlt
          rw [← hx] at hgt
          rcases kinds_of hgt with ⟨h0, _⟩ | ⟨h0, _⟩ | h3
          · unfold joinB at hj; rw [h0] at hj; simp at hj
          · unfold joinB at hj; rw [h0] at hj; simp at hj
          · omega)
        obtain ⟨kd, a, bb⟩ := x
        simp only at d0 d1 d2
        obtain ⟨T, hT⟩ : ∃ T, T = (mgT gs k) := ⟨_, rfl⟩
        rw [← hT] at HT HE
        have hl := mgT_len gs k
        rw [← hT] at hl
        have HL := Lib.hid hl
        have HGG := Lib.hid (show ∀ g ∈ T.2, GW g from by rw [hT]; exact (mgT_w gs (fun j => gw_getD HG.out.2 j) k (by omega)).2)
        obtain ⟨rg, hrg⟩ : ∃ rg, rg = srt (ren T.1 (kd, a, bb)) := ⟨_, rfl⟩
        rw [← hrg] at HE
        have HRG := Lib.hid hrg
        clear hl hT hx hgw hrg
        obtain ⟨y1, y2, y3⟩ := nw1 wr (.cells #[.int .i8 0, .int .i16 0, .int .i16 0] 67)
        obtain ⟨xb, hxb⟩ : ∃ xb, xb = wr.heap.size := ⟨_, rfl⟩
        have r5 := (show BX _ wr.heap.size _ _ _ from ⟨_, y1⟩).there
        have Y1 := Lib.hid (puts3 y1 (.int .i8 kd) (.int .i16 a) (.int .i16 bb)); have Y2 := Lib.hid (bsets (Nat.le_refl _) [.int .i8 kd, .int .i16 a, .int .i16 bb] 0 _ y2)
        clear y1 y2 y3
        go_upto_region 9 with (guard_target =~ wpList _ _ _ (⟨_, Op.store 67 _ _, _, _, _, _⟩ :: _) _ _; refine wpList_store_mid rfl 67 _ _ rfl (wr.heap.size) 0 #[.int .i8 kd, .int .i16 a, .int .i16 bb] rfl rfl r5 (by kernel_rfl) (three_one rfl rfl rfl) ?_)
        generalize World.setCells (World.alloc wr _) _ _ _ = w6 at Y1 Y2 ⊢
        rw [← hxb] at Y1 ⊢
        have m6 : BX w6 xb (.int .i8 kd) (.int .i16 a) (.int .i16 bb) := ⟨_, Y1.out⟩
        have g0 := m6.c0; have g1 := m6.c1; have g2 := m6.c2
        have M6 := Lib.hid m6
        have HXB := Lib.hid hxb
        clear m6 d0 d1 d2 r5 c1 hxb
        go_wp2_with fail
        refine (l07Joins_any (kd, a, bb) w6).mono ?_
        rintro e w7 ⟨rfl, hb7⟩
        have M7 := Lib.hid (M6.out.below hb7)
        have Y7 := Lib.hid (Y2.out.trans (hb7.mono Y2.out.size))
        clear hb7 g0 g1 g2
        have HPX : Hid (P ≠ xb) := Lib.hid (by have h2 := HT.out.2.2.1; have := HXB.out; omega)
        cases hj : joinB (kd, a, bb) with
        | false =>
          have HREN := Lib.hid (show rg = (kd, a, bb) from by rw [HRG.out]; unfold ren srt; rw [hj]; simp [hj])
          clear hj
          have HTW := Lib.hid (HT.out.below Y7.out)
          obtain ⟨tn, htn⟩ : ∃ tn, tn = T.2.length := ⟨_, rfl⟩
          obtain ⟨ix, hix⟩ : ∃ ix, ix = T.2.idxOf rg := ⟨_, rfl⟩
          have HTN := Lib.hid htn; have HIX := Lib.hid hix
          have hts : tn ≤ 600 := by have := HL.out.2; rw [htn]; omega
          have HIL := Lib.hid (show ix ≤ tn from by rw [hix, htn]; exact List.idxOf_le_length)
          clear htn hix HT
          obtain ⟨wo, rfl⟩ : ∃ wo, wo = wr := ⟨wr, rfl⟩
          go_wp2_with fail
          go_loopw [8] (fun yy wi => ∃ at' : Nat, yy = .int .i64 (at' : Int) ∧ at' ≤ ix ∧ Hid (Below wo.heap.size wo wi) ∧ Hid (BX wi xb (.int .i8 kd) (.int .i16 a) (.int .i16 bb)) ∧ Hid (TI w3 P gp gs.length n T.1 T.2 [] wi)) (fun y _ => ix - (intOf y).toNat)
          case atStart => exact ⟨0, rfl, Nat.zero_le _, Y7, M7, HTW⟩
          case round =>
            obtain ⟨at', rfl, hat, HY, HM, HT⟩ := hrel
            clear HTW Y7 M7
            have HGI := Lib.hid HT.out
            obtain ⟨hB, hpl, ⟨hpg, hgl⟩, GV, OV, h5, h6, h7⟩ := HT.out
            obtain ⟨AV, cV, rfl, _, hAV⟩ := own_formu h6
            have HLS := Lib.hid (LS.of_own h6)
            rw [← HTN.out] at h5 h6
            have HPL := Lib.hid hpl; have H5 := Lib.hid h5; have H6 := Lib.hid h6; have H7 := Lib.hid h7; have HPG := Lib.hid hpg; have HGPL := Lib.hid hgl
            have k1 : wr.cell? ⟨gp, 1, none⟩ = some (.slice AV tn cV) := (show BX _ gp _ _ _ from ⟨_, h5⟩).c1
            have m0 := HM.out.c0; have m1 := HM.out.c1; have m2 := HM.out.c2
            clear hB hpl hpg hgl h5 h6 h7 HGI hAV
            by_cases hti : at' < tn
            · have T2 : decide ((at' : Int) < (tn : Int)) = true := by simp; omega
              obtain ⟨q, off, c', e, hlb, hgw0, e0, e1, e2⟩ := GL.at (w := wr) (v := .slice AV T.2.length cV) ⟨HLS.out, HGG.out⟩ at' (by rw [← HTN.out]; exact hti)
              cases e
              obtain ⟨z, hz⟩ : ∃ z, z = T.2.getD at' gz := ⟨_, rfl⟩
              rw [← hz] at e0 e1 e2
              have HZ := Lib.hid hz
              clear hz hgw0
              have i3 : (at' : Int) < (tn : Int) := by omega
              by_cases hzr : z = (kd, a, bb)
              · have HEQ := Lib.hid (show ix = at' ∧ rg ∈ T.2 from by rw [HIX.out]; exact idx_here (by rw [← HTN.out]; exact hti) (by rw [HREN.out, ← hzr, HZ.out]) (by rw [← HIX.out]; exact hat))
                subst hzr
                have T3 : ((at' : Int) == (tn : Int)) = false := by simp; omega
                go_upto_region 14 with fail
                go_quiet (fail)
                have hbn := bdr (Below.refl wr.heap.size wr) nq
                have HT2 := Lib.hid (HT.out.below hbn)
                replace k1 := (show (wr.drewN nq).cell? ⟨gp, 1, none⟩ = _ from k1)
                have HTE := Lib.hid (show mgT gs (k + 1) = (T.1.set k (at' : Int), T.2) from by rw [HE.out, if_pos HEQ.out.2, ← HIX.out, HEQ.out.1])
                clear hbn HT H5 H6 H7 HPL e0 e1 e2 m0 m1 m2 T2
                generalize wr.drewN nq = wk at HT2 k1 ⊢
                go_upto_region 18 with fail
                have hpl := HT2.out.2.1
                have hw := i16_small at' (by have := HL.out.2; rw [← HTN.out] at this; omega)
                obtain ⟨y0, hy0⟩ : ∃ y, (i16s T.1)[k]? = some y := ⟨_, List.getElem?_eq_getElem (by rw [List.length_map, HL.out.1]; exact hlt)⟩
                have p2 : wk.cell? ⟨P, k, none⟩ = some y0 := (hpl.cellAt k (by omega)).trans hy0
                have p3 : wk.frozen? ⟨P, k, none⟩ = false := hpl.frozenAt k
                have HT1 := Lib.hid (HT2.out.place k (at' : Int))
                clear hpl hy0
                go_wp2_with fail
                exact ⟨⟨k + 1, by go_num, by omega, by rw [HTE.out]; exact HT1⟩, by simp [intOf]; omega⟩
              · have HON := Lib.hid (show at' + 1 ≤ ix from by rw [HIX.out]; exact idx_on (by rw [← HTN.out]; exact hti) HZ.out (by rw [HREN.out]; exact hzr) (by rw [← HIX.out]; exact hat))
                rcases g3_neM hzr with h1 | ⟨h1, h2⟩ | ⟨h1, h2, h3⟩
                · have F1 : (z.1 == kd) = false := by simpa using h1
                  clear hzr
                  go_upto_region 14 with fail
                  go_quiet (fail)
                  have hbn := bdr (Below.refl wr.heap.size wr) nq
                  have HT2 := Lib.hid (HT.out.below hbn); have HM2 := Lib.hid (HM.out.below hbn); have HY2 := Lib.hid (HY.out.trans (hbn.mono HY.out.size))
                  clear hbn HT HM HY H5 H6 H7 HPL e0 e1 e2 m0 m1 m2 k1
                  generalize wr.drewN nq = wk at HT2 HM2 HY2 ⊢
                  go_wp2_with fail
                  exact ⟨⟨at' + 1, by go_num, HON.out, HY2, HM2, HT2⟩, by simp [intOf]; have := HON.out; omega⟩
                · have F1 : (z.1 == kd) = true := by simpa using h1
                  have F2 : (z.2.1 == a) = false := by simpa using h2
                  clear hzr h1
                  go_upto_region 14 with fail
                  go_quiet (fail)
                  have hbn := bdr (Below.refl wr.heap.size wr) nq
                  have HT2 := Lib.hid (HT.out.below hbn); have HM2 := Lib.hid (HM.out.below hbn); have HY2 := Lib.hid (HY.out.trans (hbn.mono HY.out.size))
                  clear hbn HT HM HY H5 H6 H7 HPL e0 e1 e2 m0 m1 m2 k1
                  generalize wr.drewN nq = wk at HT2 HM2 HY2 ⊢
                  go_wp2_with fail
                  exact ⟨⟨at' + 1, by go_num, HON.out, HY2, HM2, HT2⟩, by simp [intOf]; have := HON.out; omega⟩
                · have F1 : (z.1 == kd) = true := by simpa using h1
                  have F2 : (z.2.1 == a) = true := by simpa using h2
                  have F3 : (z.2.2 == bb) = false := by simpa using h3
                  clear hzr h1 h2
                  go_upto_region 14 with fail
                  go_quiet (fail)
                  have hbn := bdr (Below.refl wr.heap.size wr) nq
                  have HT2 := Lib.hid (HT.out.below hbn); have HM2 := Lib.hid (HM.out.below hbn); have HY2 := Lib.hid (HY.out.trans (hbn.mono HY.out.size))
                  clear hbn HT HM HY H5 H6 H7 HPL e0 e1 e2 m0 m1 m2 k1
                  generalize wr.drewN nq = wk at HT2 HM2 HY2 ⊢
                  go_wp2_with fail
                  exact ⟨⟨at' + 1, by go_num, HON.out, HY2, HM2, HT2⟩, by simp [intOf]; have := HON.out; omega⟩
            · obtain rfl : tn = at' := by have := HIL.out; omega
              have HEQ := Lib.hid (show rg ∉ T.2 ∧ T.2.idxOf rg = T.2.length from idx_end (by rw [← HIX.out, ← HTN.out]; exact hat))
              have T2 : decide ((tn : Int) < (tn : Int)) = false := by simp
              have T3 : ((tn : Int) == (tn : Int)) = true := by simp
              go_upto_region 14 with fail
              go_quiet (fail)
              have hbn := bdr (Below.refl wr.heap.size wr) nq
              have HT1 := Lib.hid (HT.out.below hbn); have M1 := Lib.hid (HM.out.below hbn)
              have H51 := Lib.hid ((hbn.block gp HGPL.out).trans H5.out); have H61 := Lib.hid (owb H6.out hbn); have H71 := Lib.hid (owb H7.out hbn)
              have HTE := Lib.hid (show mgT gs (k + 1) = (T.1.set k (tn : Int), T.2 ++ [rg]) from by rw [HE.out, if_neg HEQ.out.1, HEQ.out.2, HTN.out])
              replace k1 := (show (wr.drewN nq).cell? ⟨gp, 1, none⟩ = _ from k1)
              clear hbn HT HM HY H5 H6 H7 HPL m0 m1 m2 T2
              generalize wr.drewN nq = wk at HT1 M1 H51 H61 H71 k1 ⊢
              go_upto_region 17 with fail
              have g0 := M1.out.c0; have g1 := M1.out.c1; have g2 := M1.out.c2
              have hal := (nw1 wk (.cells (gc (kd, a, bb)).toArray 67)).2.1
              have HOA := Lib.hid (owb H61.out hal)
              have q1 : (wk.alloc (.cells (gc (kd, a, bb)).toArray 67)).cell? ⟨gp, 1, none⟩ = some (.slice AV tn cV) := (hal.cell (p := ⟨gp, 1, none⟩) HT1.out.2.2.1.2).trans k1
              have hji := JI.out; have hjz0 := JZ0.out; have hjz1 := JZ1.out; have hjz2 := JZ2.out
              have htl := HL.out.2
              rw [← HTN.out] at htl
              go_upto_region 18 with (at_builtin; refine wpList_append_own _ rfl _ _ 28 rfl (gp + 1) 67 j0 (.agg #[.int .i8 0, .int .i16 0, .int .i16 0]) 3 6 Tryd.underlying28 hji hjz0 hjz1 hjz2 rfl (by decide) _ tn _ rfl HOA.out ⟨wk.heap.size, 0, none⟩ 1 1 (gc (kd, a, bb)) rfl rfl ?c1f ?c2f ?c3f ?c4f ?c5f ?_)
              case c1f => exact (fun j u hu => gate_cells wk (kd, a, bb) 67 j u hu)
              case c2f => simp [gc, Value.oneCell']
              case c3f => unfold maxLen; omega
              case c4f => omega
              case c5f => rw [World.size_alloc]; have := HT1.out.2.2.1.2; omega
              intro s' wy hown hgrow _
              have hgr := grown_transc (World.grownBy_alloc wk (.cells (gc (kd, a, bb)).toArray 67) (Value.slice AV tn cV).ownBlock) hgrow
              have hown2 : wy.ownsRow (gp + 1) 67 3 s' (T.2 ++ [rg]).length (gcs (T.2 ++ [rg])) := by
                rw [HREN.out, List.length_append, ← HTN.out, show gcs (T.2 ++ [(kd, a, bb)]) = gcs T.2 ++ gc (kd, a, bb) from by simp [gcs]]; exact hown
              have HT2 := Lib.hid (HT1.out.gates H51.out (by rw [← HTN.out]; exact H61.out) H71.out hgr hown2)
              have hgb : wy.heap[gp]? = some _ := (hgr.block gp HT1.out.2.2.1.2 (fun e => by have := (own_block H61.out gp e.symm).1; omega)).trans H51.out
              have k2 : wy.cell? ⟨gp, 1, none⟩ = some (.slice AV tn cV) := (show BX _ gp _ _ _ from ⟨_, hgb⟩).c1
              have k3 : wy.frozen? ⟨gp, 1, none⟩ = false := frozen_of_row _ _ _ _ _ hgb
              obtain ⟨A', c', rfl, _, _⟩ := own_formu hown2
              have HLE := Lib.hid (show (T.2 ++ [rg]).length = tn + 1 from by rw [List.length_append, ← HTN.out]; rfl)
              rw [HLE.out] at HT2 ⊢
              clear T3 hown hgrow hgr hown2 hgb k1 q1 g0 g1 g2 hal hji hjz0 hjz1 hjz2
              go_upto_region 18 with fail
              generalize wy.setCell ⟨gp, 1, none⟩ (.slice A' (tn + 1) c') = wz at HT2 ⊢
              clear k2 k3
              have hpl := HT2.out.2.1
              have hw := i16_small tn (by have := HL.out.2; rw [← HTN.out] at this; omega)
              obtain ⟨y0, hy0⟩ : ∃ y, (i16s T.1)[k]? = some y := ⟨_, List.getElem?_eq_getElem (by rw [List.length_map, HL.out.1]; exact hlt)⟩
              have p2 : wz.cell? ⟨P, k, none⟩ = some y0 := (hpl.cellAt k (by omega)).trans hy0
              have p3 : wz.frozen? ⟨P, k, none⟩ = false := hpl.frozenAt k
              have HT1 := Lib.hid (HT2.out.place k (tn : Int))
              clear hpl hy0
              go_wp2_with fail
              exact ⟨⟨k + 1, by go_num, by omega, by rw [HTE.out]; exact HT1⟩, by simp [intOf]; omega⟩
        | true =>
          obtain ⟨⟨ha0, ha1⟩, hb0, hb1⟩ := HV.out hj
          obtain ⟨an, rfl⟩ : ∃ an : Nat, a = (an : Int) := ⟨a.toNat, by omega⟩
          obtain ⟨bn, rfl⟩ : ∃ bn : Nat, bb = (bn : Int) := ⟨bb.toNat, by omega⟩
          obtain ⟨x, hx⟩ : ∃ x, x = plc T.1 (an : Int) := ⟨_, rfl⟩
          obtain ⟨y, hy⟩ : ∃ y, y = plc T.1 (bn : Int) := ⟨_, rfl⟩
          have HR0 := Lib.hid (show ren T.1 (kd, (an : Int), (bn : Int)) = (kd, x, y) from by unfold ren; rw [hj, hx, hy]; rfl)
          have HJ := Lib.hid (show joinB (kd, x, y) = true from hj)
          have hop := (HT.out.below Y7.out).2.1
          have d1 : w7.cell? ⟨P, an, none⟩ = some (.int .i16 x) := by
            rw [hop.cellAt an (by omega), List.getElem?_map, hx]; unfold plc; rw [show ((an : Int)).toNat = an from rfl, List.getD, List.getElem?_eq_getElem (by rw [HL.out.1]; omega)]; rfl
          have d2 : w7.cell? ⟨P, bn, none⟩ = some (.int .i16 y) := by
            rw [hop.cellAt bn (by omega), List.getElem?_map, hy]; unfold plc; rw [show ((bn : Int)).toNat = bn from rfl, List.getD, List.getElem?_eq_getElem (by rw [HL.out.1]; omega)]; rfl
          have D12 : Hid (w7.drew.cell? ⟨P, an, none⟩ = some (.int .i16 x) ∧ w7.drew.cell? ⟨P, bn, none⟩ = some (.int .i16 y)) := Lib.hid ⟨d1, d2⟩
          clear hj hx hy d1 d2 hop
          go_upto_region 10 with fail
          refine region_post (A := ?A12) (fun _ u => Hid (BX u xb (.int .i8 kd) (.int .i16 x) (.int .i16 y)) ∧ Hid (Below wr.heap.size wr u)) ?_ ?_
          rotate_left
          · refine wp_region_held_drew (S := fun u => u.cell? ⟨P, an, none⟩ = some (.int .i16 x) ∧ u.cell? ⟨P, bn, none⟩ = some (.int .i16 y)) (by kernel_rfl) ?hS0 (fun hS => ?_)
            case hS0 => exact D12.out
            have YD : Hid (Below wr.heap.size wr w7.drew) := Lib.hid (bdr Y7.out 1)
            have MD : Hid (BX w7.drew xb (.int .i8 kd) (.int .i16 (an : Int)) (.int .i16 (bn : Int))) := Lib.hid M7.out
            generalize w7.drew = wd at hS MD YD ⊢
            have f0 := MD.out.c0; have f1 := MD.out.c1; have f2 := MD.out.c2; have r7 := MD.out.there
            refine takeHd (i := 0) (v := ?v0) rfl rfl (by kernel_rfl) (by kernel_rfl) (by kernel_rfl) (fun _ _ _ h => absurd h.1 (by intro e; cases e)) rfl ?hy0 hS ?rs0
            case hy0 => (intro wq hq; obtain ⟨hq1, hq2⟩ := hq; go_simp; try (with_reducible rfl))
            simp only [Act.put, List.setIfInBounds_toArray, List.set_cons_zero, List.set_cons_succ]
            refine takeHd (i := 2) (v := ?v2) rfl rfl (by kernel_rfl) (by kernel_rfl) (by kernel_rfl) (fun _ _ _ h => absurd h.1 (by intro e; cases e)) rfl ?hy2 hS ?rs2
            case hy2 => (intro wq hq; obtain ⟨hq1, hq2⟩ := hq; go_simp; try (with_reducible rfl))
            simp only [Act.put, List.setIfInBounds_toArray, List.set_cons_zero, List.set_cons_succ]
            refine takeHd (i := 3) (v := ?v3) rfl rfl (by kernel_rfl) (by kernel_rfl) (by kernel_rfl) (fun _ _ _ h => absurd h.1 (by intro e; cases e)) rfl ?hy3 hS ?rs3
            case hy3 => (intro wq hq; obtain ⟨hq1, hq2⟩ := hq; go_simp; try (with_reducible rfl))
            simp only [Act.put, List.setIfInBounds_toArray, List.set_cons_zero, List.set_cons_succ]
            refine takeHd (i := 7) (v := ?v7) rfl rfl (by kernel_rfl) (by kernel_rfl) (by kernel_rfl) (fun _ _ _ h => absurd h.1 (by intro e; cases e)) rfl ?hy7 hS ?rs7
            case hy7 => (intro wq hq; obtain ⟨hq1, hq2⟩ := hq; go_simp; try (with_reducible rfl))
            simp only [Act.put, List.setIfInBounds_toArray, List.set_cons_zero, List.set_cons_succ]
            refine takeHd (i := 8) (v := ?v8) rfl rfl (by kernel_rfl) (by kernel_rfl) (by kernel_rfl) (fun _ _ _ h => absurd h.1 (by intro e; cases e)) rfl ?hy8 hS ?rs8
            case hy8 => (intro wq hq; obtain ⟨hq1, hq2⟩ := hq; go_simp; try (with_reducible rfl))
            simp only [Act.put, List.setIfInBounds_toArray, List.set_cons_zero, List.set_cons_succ]
            refine wpAnyH_ready (rs := [1, 4, 9]) (by kernel_rfl) (by simp) ?_
            refine AllReadyH.cons rfl (fun K hK => ?_) (AllReadyH.cons rfl (fun K hK => ?_) (AllReadyH.cons rfl (fun K hK => ?_) AllReadyH.nil))
            · go_simp
              refine hK.out _ wd hS (fun hS => ?_)
              clear hK
              try simp only [Act.put, List.setIfInBounds_toArray, List.set_cons_zero, List.set_cons_succ]
              refine wpAnyH_ready (rs := [4, 9]) (by kernel_rfl) (by simp) ?_
              refine AllReadyH.cons rfl (fun K hK => ?_) (AllReadyH.cons rfl (fun K hK => ?_) AllReadyH.nil)
              · go_simp
                refine hK.out _ wd hS (fun hS => ?_)
                clear hK
                try simp only [Act.put, List.setIfInBounds_toArray, List.set_cons_zero, List.set_cons_succ]
                refine takeHd (i := 5) (v := ?v5be) rfl rfl (by kernel_rfl) (by kernel_rfl) (by kernel_rfl) (fun _ _ _ h => absurd h.1 (by intro e; cases e)) rfl ?hy5be hS ?rs5be
                case hy5be => (intro wq hq; obtain ⟨hq1, hq2⟩ := hq; go_simp; try (with_reducible rfl))
                simp only [Act.put, List.setIfInBounds_toArray, List.set_cons_zero, List.set_cons_succ]
                refine takeHd (i := 6) (v := ?v6be) rfl rfl (by kernel_rfl) (by kernel_rfl) (by kernel_rfl) (fun _ _ _ h => absurd h.1 (by intro e; cases e)) rfl ?hy6be hS ?rs6be
                case hy6be => (intro wq hq; obtain ⟨hq1, hq2⟩ := hq; go_simp; try (with_reducible rfl))
                simp only [Act.put, List.setIfInBounds_toArray, List.set_cons_zero, List.set_cons_succ]
                refine wpAnyH_ready (rs := [9]) (by kernel_rfl) (by simp) ?_
                refine AllReadyH.cons rfl (fun K hK => ?_) AllReadyH.nil
                go_simp
                refine hK.out _ wd hS (fun hS => ?_)
                clear hK
                try simp only [Act.put, List.setIfInBounds_toArray, List.set_cons_zero, List.set_cons_succ]
                refine takeHd (i := 10) (v := ?v10be) rfl rfl (by kernel_rfl) (by kernel_rfl) (by kernel_rfl) (fun _ _ _ h => absurd h.1 (by intro e; cases e)) rfl ?hy10be hS ?rs10be
                case hy10be => (intro wq hq; obtain ⟨hq1, hq2⟩ := hq; go_simp; try (with_reducible rfl))
                simp only [Act.put, List.setIfInBounds_toArray, List.set_cons_zero, List.set_cons_succ]
                refine takeHd (i := 11) (v := ?v11be) rfl rfl (by kernel_rfl) (by kernel_rfl) (by kernel_rfl) (fun _ _ _ h => absurd h.1 (by intro e; cases e)) rfl ?hy11be hS ?rs11be
                case hy11be => (intro wq hq; obtain ⟨hq1, hq2⟩ := hq; go_simp; try (with_reducible rfl))
                simp only [Act.put, List.setIfInBounds_toArray, List.set_cons_zero, List.set_cons_succ]
                refine takeHd (i := 12) (v := ?v12be) rfl rfl (by kernel_rfl) (by kernel_rfl) (by kernel_rfl) (fun _ _ _ h => absurd h.1 (by intro e; cases e)) rfl ?hy12be hS ?rs12be
                case hy12be => (intro wq hq; obtain ⟨hq1, hq2⟩ := hq; go_simp; try (with_reducible rfl))
                simp only [Act.put, List.setIfInBounds_toArray, List.set_cons_zero, List.set_cons_succ]
                refine wpAnyH_ready (rs := [13]) (by kernel_rfl) (by simp) ?_
                refine AllReadyH.cons rfl (fun K hK => ?_) AllReadyH.nil
                simp only [List.getElem_toArray, List.getElem_cons_zero, List.getElem_cons_succ]
                refine wp_store_mid 67 _ _ rfl xb 0 #[.int .i8 kd, .int .i16 x, .int .i16 y] rfl rfl r7 (by kernel_rfl) (three_one rfl rfl rfl) ?_
                refine hK.out _ (wd.setCells xb 0 [.int .i8 kd, .int .i16 x, .int .i16 y]) ⟨(cells_far HPX.out _ 0 _).trans hS.1, (cells_far HPX.out _ 0 _).trans hS.2⟩ (fun hS => ?_)
                clear hK
                try simp only [Act.put, List.setIfInBounds_toArray, List.set_cons_zero, List.set_cons_succ]
                refine wpAnyH_done (by kernel_rfl) ?_ _
                obtain ⟨q0, _⟩ : ∃ q : Nat, q = 0 := ⟨0, rfl⟩
                refine ⟨rfl, q0, ?_, Lib.hid (MD.out.puts _ _ _), Lib.hid (bsets (by have := HXB.out; omega) _ 0 wd YD.out)⟩
                rfl
              · go_simp
                refine hK.out _ wd hS (fun hS => ?_)
                clear hK
                try simp only [Act.put, List.setIfInBounds_toArray, List.set_cons_zero, List.set_cons_succ]
                refine takeHd (i := 10) (v := ?v10bj) rfl rfl (by kernel_rfl) (by kernel_rfl) (by kernel_rfl) (fun _ _ _ h => absurd h.1 (by intro e; cases e)) rfl ?hy10bj hS ?rs10bj
                case hy10bj => (intro wq hq; obtain ⟨hq1, hq2⟩ := hq; go_simp; try (with_reducible rfl))
                simp only [Act.put, List.setIfInBounds_toArray, List.set_cons_zero, List.set_cons_succ]
                refine takeHd (i := 11) (v := ?v11bj) rfl rfl (by kernel_rfl) (by kernel_rfl) (by kernel_rfl) (fun _ _ _ h => absurd h.1 (by intro e; cases e)) rfl ?hy11bj hS ?rs11bj
                case hy11bj => (intro wq hq; obtain ⟨hq1, hq2⟩ := hq; go_simp; try (with_reducible rfl))
                simp only [Act.put, List.setIfInBounds_toArray, List.set_cons_zero, List.set_cons_succ]
                refine wpAnyH_ready (rs := [4]) (by kernel_rfl) (by simp) ?_
                refine AllReadyH.cons rfl (fun K hK => ?_) AllReadyH.nil
                go_simp
                refine hK.out _ wd hS (fun hS => ?_)
                clear hK
                try simp only [Act.put, List.setIfInBounds_toArray, List.set_cons_zero, List.set_cons_succ]
                refine takeHd (i := 5) (v := ?v5bj) rfl rfl (by kernel_rfl) (by kernel_rfl) (by kernel_rfl) (fun _ _ _ h => absurd h.1 (by intro e; cases e)) rfl ?hy5bj hS ?rs5bj
                case hy5bj => (intro wq hq; obtain ⟨hq1, hq2⟩ := hq; go_simp; try (with_reducible rfl))
                simp only [Act.put, List.setIfInBounds_toArray, List.set_cons_zero, List.set_cons_succ]
                refine takeHd (i := 6) (v := ?v6bj) rfl rfl (by kernel_rfl) (by kernel_rfl) (by kernel_rfl) (fun _ _ _ h => absurd h.1 (by intro e; cases e)) rfl ?hy6bj hS ?rs6bj
                case hy6bj => (intro wq hq; obtain ⟨hq1, hq2⟩ := hq; go_simp; try (with_reducible rfl))
                simp only [Act.put, List.setIfInBounds_toArray, List.set_cons_zero, List.set_cons_succ]
                refine takeHd (i := 12) (v := ?v12bj) rfl rfl (by kernel_rfl) (by kernel_rfl) (by kernel_rfl) (fun _ _ _ h => absurd h.1 (by intro e; cases e)) rfl ?hy12bj hS ?rs12bj
                case hy12bj => (intro wq hq; obtain ⟨hq1, hq2⟩ := hq; go_simp; try (with_reducible rfl))
                simp only [Act.put, List.setIfInBounds_toArray, List.set_cons_zero, List.set_cons_succ]
                refine wpAnyH_ready (rs := [13]) (by kernel_rfl) (by simp) ?_
                refine AllReadyH.cons rfl (fun K hK => ?_) AllReadyH.nil
                simp only [List.getElem_toArray, List.getElem_cons_zero, List.getElem_cons_succ]
                refine wp_store_mid 67 _ _ rfl xb 0 #[.int .i8 kd, .int .i16 x, .int .i16 y] rfl rfl r7 (by kernel_rfl) (three_one rfl rfl rfl) ?_
                refine hK.out _ (wd.setCells xb 0 [.int .i8 kd, .int .i16 x, .int .i16 y]) ⟨(cells_far HPX.out _ 0 _).trans hS.1, (cells_far HPX.out _ 0 _).trans hS.2⟩ (fun hS => ?_)
                clear hK
                try simp only [Act.put, List.setIfInBounds_toArray, List.set_cons_zero, List.set_cons_succ]
                refine wpAnyH_done (by kernel_rfl) ?_ _
                obtain ⟨q0, _⟩ : ∃ q : Nat, q = 0 := ⟨0, rfl⟩
                refine ⟨rfl, q0, ?_, Lib.hid (MD.out.puts _ _ _), Lib.hid (bsets (by have := HXB.out; omega) _ 0 wd YD.out)⟩
                rfl
            · go_simp
              refine hK.out _ wd hS (fun hS => ?_)
              clear hK
              try simp only [Act.put, List.setIfInBounds_toArray, List.set_cons_zero, List.set_cons_succ]
              refine takeHd (i := 5) (v := ?v5e) rfl rfl (by kernel_rfl) (by kernel_rfl) (by kernel_rfl) (fun _ _ _ h => absurd h.1 (by intro e; cases e)) rfl ?hy5e hS ?rs5e
              case hy5e => (intro wq hq; obtain ⟨hq1, hq2⟩ := hq; go_simp; try (with_reducible rfl))
              simp only [Act.put, List.setIfInBounds_toArray, List.set_cons_zero, List.set_cons_succ]
              refine takeHd (i := 6) (v := ?v6e) rfl rfl (by kernel_rfl) (by kernel_rfl) (by kernel_rfl) (fun _ _ _ h => absurd h.1 (by intro e; cases e)) rfl ?hy6e hS ?rs6e
              case hy6e => (intro wq hq; obtain ⟨hq1, hq2⟩ := hq; go_simp; try (with_reducible rfl))
              simp only [Act.put, List.setIfInBounds_toArray, List.set_cons_zero, List.set_cons_succ]
              refine wpAnyH_ready (rs := [1, 9]) (by kernel_rfl) (by simp) ?_
              refine AllReadyH.cons rfl (fun K hK => ?_) (AllReadyH.cons rfl (fun K hK => ?_) AllReadyH.nil)
              · go_simp
                refine hK.out _ wd hS (fun hS => ?_)
                clear hK
                try simp only [Act.put, List.setIfInBounds_toArray, List.set_cons_zero, List.set_cons_succ]
                refine wpAnyH_ready (rs := [9]) (by kernel_rfl) (by simp) ?_
                refine AllReadyH.cons rfl (fun K hK => ?_) AllReadyH.nil
                go_simp
                refine hK.out _ wd hS (fun hS => ?_)
                clear hK
                try simp only [Act.put, List.setIfInBounds_toArray, List.set_cons_zero, List.set_cons_succ]
                refine takeHd (i := 10) (v := ?v10eb) rfl rfl (by kernel_rfl) (by kernel_rfl) (by kernel_rfl) (fun _ _ _ h => absurd h.1 (by intro e; cases e)) rfl ?hy10eb hS ?rs10eb
                case hy10eb => (intro wq hq; obtain ⟨hq1, hq2⟩ := hq; go_simp; try (with_reducible rfl))
                simp only [Act.put, List.setIfInBounds_toArray, List.set_cons_zero, List.set_cons_succ]
                refine takeHd (i := 11) (v := ?v11eb) rfl rfl (by kernel_rfl) (by kernel_rfl) (by kernel_rfl) (fun _ _ _ h => absurd h.1 (by intro e; cases e)) rfl ?hy11eb hS ?rs11eb
                case hy11eb => (intro wq hq; obtain ⟨hq1, hq2⟩ := hq; go_simp; try (with_reducible rfl))
                simp only [Act.put, List.setIfInBounds_toArray, List.set_cons_zero, List.set_cons_succ]
                refine takeHd (i := 12) (v := ?v12eb) rfl rfl (by kernel_rfl) (by kernel_rfl) (by kernel_rfl) (fun _ _ _ h => absurd h.1 (by intro e; cases e)) rfl ?hy12eb hS ?rs12eb
                case hy12eb => (intro wq hq; obtain ⟨hq1, hq2⟩ := hq; go_simp; try (with_reducible rfl))
                simp only [Act.put, List.setIfInBounds_toArray, List.set_cons_zero, List.set_cons_succ]
                refine wpAnyH_ready (rs := [13]) (by kernel_rfl) (by simp) ?_
                refine AllReadyH.cons rfl (fun K hK => ?_) AllReadyH.nil
                simp only [List.getElem_toArray, List.getElem_cons_zero, List.getElem_cons_succ]
                refine wp_store_mid 67 _ _ rfl xb 0 #[.int .i8 kd, .int .i16 x, .int .i16 y] rfl rfl r7 (by kernel_rfl) (three_one rfl rfl rfl) ?_
                refine hK.out _ (wd.setCells xb 0 [.int .i8 kd, .int .i16 x, .int .i16 y]) ⟨(cells_far HPX.out _ 0 _).trans hS.1, (cells_far HPX.out _ 0 _).trans hS.2⟩ (fun hS => ?_)
                clear hK
                try simp only [Act.put, List.setIfInBounds_toArray, List.set_cons_zero, List.set_cons_succ]
                refine wpAnyH_done (by kernel_rfl) ?_ _
                obtain ⟨q0, _⟩ : ∃ q : Nat, q = 0 := ⟨0, rfl⟩
                refine ⟨rfl, q0, ?_, Lib.hid (MD.out.puts _ _ _), Lib.hid (bsets (by have := HXB.out; omega) _ 0 wd YD.out)⟩
                rfl
              · go_simp
                refine hK.out _ wd hS (fun hS => ?_)
                clear hK
                try simp only [Act.put, List.setIfInBounds_toArray, List.set_cons_zero, List.set_cons_succ]
                refine takeHd (i := 10) (v := ?v10ej) rfl rfl (by kernel_rfl) (by kernel_rfl) (by kernel_rfl) (fun _ _ _ h => absurd h.1 (by intro e; cases e)) rfl ?hy10ej hS ?rs10ej
                case hy10ej => (intro wq hq; obtain ⟨hq1, hq2⟩ := hq; go_simp; try (with_reducible rfl))
                simp only [Act.put, List.setIfInBounds_toArray, List.set_cons_zero, List.set_cons_succ]
                refine takeHd (i := 11) (v := ?v11ej) rfl rfl (by kernel_rfl) (by kernel_rfl) (by kernel_rfl) (fun _ _ _ h => absurd h.1 (by intro e; cases e)) rfl ?hy11ej hS ?rs11ej
                case hy11ej => (intro wq hq; obtain ⟨hq1, hq2⟩ := hq; go_simp; try (with_reducible rfl))
                simp only [Act.put, List.setIfInBounds_toArray, List.set_cons_zero, List.set_cons_succ]
                refine wpAnyH_ready (rs := [1]) (by kernel_rfl) (by simp) ?_
                refine AllReadyH.cons rfl (fun K hK => ?_) AllReadyH.nil
                go_simp
                refine hK.out _ wd hS (fun hS => ?_)
                clear hK
                try simp only [Act.put, List.setIfInBounds_toArray, List.set_cons_zero, List.set_cons_succ]
                refine takeHd (i := 12) (v := ?v12ej) rfl rfl (by kernel_rfl) (by kernel_rfl) (by kernel_rfl) (fun _ _ _ h => absurd h.1 (by intro e; cases e)) rfl ?hy12ej hS ?rs12ej
                case hy12ej => (intro wq hq; obtain ⟨hq1, hq2⟩ := hq; go_simp; try (with_reducible rfl))
                simp only [Act.put, List.setIfInBounds_toArray, List.set_cons_zero, List.set_cons_succ]
                refine wpAnyH_ready (rs := [13]) (by kernel_rfl) (by simp) ?_
                refine AllReadyH.cons rfl (fun K hK => ?_) AllReadyH.nil
                simp only [List.getElem_toArray, List.getElem_cons_zero, List.getElem_cons_succ]
                refine wp_store_mid 67 _ _ rfl xb 0 #[.int .i8 kd, .int .i16 x, .int .i16 y] rfl rfl r7 (by kernel_rfl) (three_one rfl rfl rfl) ?_
                refine hK.out _ (wd.setCells xb 0 [.int .i8 kd, .int .i16 x, .int .i16 y]) ⟨(cells_far HPX.out _ 0 _).trans hS.1, (cells_far HPX.out _ 0 _).trans hS.2⟩ (fun hS => ?_)
                clear hK
                try simp only [Act.put, List.setIfInBounds_toArray, List.set_cons_zero, List.set_cons_succ]
                refine wpAnyH_done (by kernel_rfl) ?_ _
                obtain ⟨q0, _⟩ : ∃ q : Nat, q = 0 := ⟨0, rfl⟩
                refine ⟨rfl, q0, ?_, Lib.hid (MD.out.puts _ _ _), Lib.hid (bsets (by have := HXB.out; omega) _ 0 wd YD.out)⟩
                rfl
            · go_simp
              refine hK.out _ wd hS (fun hS => ?_)
              clear hK
              try simp only [Act.put, List.setIfInBounds_toArray, List.set_cons_zero, List.set_cons_succ]
              refine takeHd (i := 10) (v := ?v10j) rfl rfl (by kernel_rfl) (by kernel_rfl) (by kernel_rfl) (fun _ _ _ h => absurd h.1 (by intro e; cases e)) rfl ?hy10j hS ?rs10j
              case hy10j => (intro wq hq; obtain ⟨hq1, hq2⟩ := hq; go_simp; try (with_reducible rfl))
              simp only [Act.put, List.setIfInBounds_toArray, List.set_cons_zero, List.set_cons_succ]
              refine takeHd (i := 11) (v := ?v11j) rfl rfl (by kernel_rfl) (by kernel_rfl) (by kernel_rfl) (fun _ _ _ h => absurd h.1 (by intro e; cases e)) rfl ?hy11j hS ?rs11j
              case hy11j => (intro wq hq; obtain ⟨hq1, hq2⟩ := hq; go_simp; try (with_reducible rfl))
              simp only [Act.put, List.setIfInBounds_toArray, List.set_cons_zero, List.set_cons_succ]
              refine wpAnyH_ready (rs := [1, 4]) (by kernel_rfl) (by simp) ?_
              refine AllReadyH.cons rfl (fun K hK => ?_) (AllReadyH.cons rfl (fun K hK => ?_) AllReadyH.nil)
              · go_simp
                refine hK.out _ wd hS (fun hS => ?_)
                clear hK
                try simp only [Act.put, List.setIfInBounds_toArray, List.set_cons_zero, List.set_cons_succ]
                refine wpAnyH_ready (rs := [4]) (by kernel_rfl) (by simp) ?_
                refine AllReadyH.cons rfl (fun K hK => ?_) AllReadyH.nil
                go_simp
                refine hK.out _ wd hS (fun hS => ?_)
                clear hK
                try simp only [Act.put, List.setIfInBounds_toArray, List.set_cons_zero, List.set_cons_succ]
                refine takeHd (i := 5) (v := ?v5jb) rfl rfl (by kernel_rfl) (by kernel_rfl) (by kernel_rfl) (fun _ _ _ h => absurd h.1 (by intro e; cases e)) rfl ?hy5jb hS ?rs5jb
                case hy5jb => (intro wq hq; obtain ⟨hq1, hq2⟩ := hq; go_simp; try (with_reducible rfl))
                simp only [Act.put, List.setIfInBounds_toArray, List.set_cons_zero, List.set_cons_succ]
                refine takeHd (i := 6) (v := ?v6jb) rfl rfl (by kernel_rfl) (by kernel_rfl) (by kernel_rfl) (fun _ _ _ h => absurd h.1 (by intro e; cases e)) rfl ?hy6jb hS ?rs6jb
                case hy6jb => (intro wq hq; obtain ⟨hq1, hq2⟩ := hq; go_simp; try (with_reducible rfl))
                simp only [Act.put, List.setIfInBounds_toArray, List.set_cons_zero, List.set_cons_succ]
                refine takeHd (i := 12) (v := ?v12jb) rfl rfl (by kernel_rfl) (by kernel_rfl) (by kernel_rfl) (fun _ _ _ h => absurd h.1 (by intro e; cases e)) rfl ?hy12jb hS ?rs12jb
                case hy12jb => (intro wq hq; obtain ⟨hq1, hq2⟩ := hq; go_simp; try (with_reducible rfl))
                simp only [Act.put, List.setIfInBounds_toArray, List.set_cons_zero, List.set_cons_succ]
                refine wpAnyH_ready (rs := [13]) (by kernel_rfl) (by simp) ?_
                refine AllReadyH.cons rfl (fun K hK => ?_) AllReadyH.nil
                simp only [List.getElem_toArray, List.getElem_cons_zero, List.getElem_cons_succ]
                refine wp_store_mid 67 _ _ rfl xb 0 #[.int .i8 kd, .int .i16 x, .int .i16 y] rfl rfl r7 (by kernel_rfl) (three_one rfl rfl rfl) ?_
                refine hK.out _ (wd.setCells xb 0 [.int .i8 kd, .int .i16 x, .int .i16 y]) ⟨(cells_far HPX.out _ 0 _).trans hS.1, (cells_far HPX.out _ 0 _).trans hS.2⟩ (fun hS => ?_)
                clear hK
                try simp only [Act.put, List.setIfInBounds_toArray, List.set_cons_zero, List.set_cons_succ]
                refine wpAnyH_done (by kernel_rfl) ?_ _
                obtain ⟨q0, _⟩ : ∃ q : Nat, q = 0 := ⟨0, rfl⟩
                refine ⟨rfl, q0, ?_, Lib.hid (MD.out.puts _ _ _), Lib.hid (bsets (by have := HXB.out; omega) _ 0 wd YD.out)⟩
                rfl
              · go_simp
                refine hK.out _ wd hS (fun hS => ?_)
                clear hK
                try simp only [Act.put, List.setIfInBounds_toArray, List.set_cons_zero, List.set_cons_succ]
                refine takeHd (i := 5) (v := ?v5je) rfl rfl (by kernel_rfl) (by kernel_rfl) (by kernel_rfl) (fun _ _ _ h => absurd h.1 (by intro e; cases e)) rfl ?hy5je hS ?rs5je
                case hy5je => (intro wq hq; obtain ⟨hq1, hq2⟩ := hq; go_simp; try (with_reducible rfl))
                simp only [Act.put, List.setIfInBounds_toArray, List.set_cons_zero, List.set_cons_succ]
                refine takeHd (i := 6) (v := ?v6je) rfl rfl (by kernel_rfl) (by kernel_rfl) (by kernel_rfl) (fun _ _ _ h => absurd h.1 (by intro e; cases e)) rfl ?hy6je hS ?rs6je
                case hy6je => (intro wq hq; obtain ⟨hq1, hq2⟩ := hq; go_simp; try (with_reducible rfl))
                simp only [Act.put, List.setIfInBounds_toArray, List.set_cons_zero, List.set_cons_succ]
                refine wpAnyH_ready (rs := [1]) (by kernel_rfl) (by simp) ?_
                refine AllReadyH.cons rfl (fun K hK => ?_) AllReadyH.nil
                go_simp
                refine hK.out _ wd hS (fun hS => ?_)
                clear hK
                try simp only [Act.put, List.setIfInBounds_toArray, List.set_cons_zero, List.set_cons_succ]
                refine takeHd (i := 12) (v := ?v12je) rfl rfl (by kernel_rfl) (by kernel_rfl) (by kernel_rfl) (fun _ _ _ h => absurd h.1 (by intro e; cases e)) rfl ?hy12je hS ?rs12je
                case hy12je => (intro wq hq; obtain ⟨hq1, hq2⟩ := hq; go_simp; try (with_reducible rfl))
                simp only [Act.put, List.setIfInBounds_toArray, List.set_cons_zero, List.set_cons_succ]
                refine wpAnyH_ready (rs := [13]) (by kernel_rfl) (by simp) ?_
                refine AllReadyH.cons rfl (fun K hK => ?_) AllReadyH.nil
                simp only [List.getElem_toArray, List.getElem_cons_zero, List.getElem_cons_succ]
                refine wp_store_mid 67 _ _ rfl xb 0 #[.int .i8 kd, .int .i16 x, .int .i16 y] rfl rfl r7 (by kernel_rfl) (three_one rfl rfl rfl) ?_
                refine hK.out _ (wd.setCells xb 0 [.int .i8 kd, .int .i16 x, .int .i16 y]) ⟨(cells_far HPX.out _ 0 _).trans hS.1, (cells_far HPX.out _ 0 _).trans hS.2⟩ (fun hS => ?_)
                clear hK
                try simp only [Act.put, List.setIfInBounds_toArray, List.set_cons_zero, List.set_cons_succ]
                refine wpAnyH_done (by kernel_rfl) ?_ _
                obtain ⟨q0, _⟩ : ∃ q : Nat, q = 0 := ⟨0, rfl⟩
                refine ⟨rfl, q0, ?_, Lib.hid (MD.out.puts _ _ _), Lib.hid (bsets (by have := HXB.out; omega) _ 0 wd YD.out)⟩
                rfl
          · intro _ w8 hr
            obtain ⟨M8, Y8⟩ := hr
            have f0 := M8.out.c0; have f1 := M8.out.c1; have f2 := M8.out.c2; have r8 := M8.out.there
            clear D12 M7 Y7
            by_cases hxy : y < x
            · have T4 : decide (y < x) = true := by simpa using hxy
              have HREN := Lib.hid (show rg = (kd, y, x) from by
                rw [HRG.out, HR0.out]; unfold srt; rw [if_pos HJ.out]
                show (kd, min x y, max x y) = _
                rw [Int.min_eq_right (by omega), Int.max_eq_left (by omega)])
              have M9 := Lib.hid (M8.out.puts (.int .i8 kd) (.int .i16 y) (.int .i16 x))
              have Y9 := Lib.hid (bsets (show wr.heap.size ≤ xb from by have := HXB.out; omega) [.int .i8 kd, .int .i16 y, .int .i16 x] 0 w8 Y8.out)
              go_upto_region 13 with (guard_target =~ wpList _ _ _ (⟨_, Op.store 67 _ _, _, _, _, _⟩ :: _) _ _; refine wpList_store_mid rfl 67 _ _ rfl (xb) 0 #[.int .i8 kd, .int .i16 y, .int .i16 x] rfl rfl r8 (by kernel_rfl) (three_one rfl rfl rfl) ?_)
              clear f0 f1 f2 r8 M8 Y8 T4
              generalize w8.setCells xb 0 [.int .i8 kd, .int .i16 y, .int .i16 x] = w9 at M9 Y9 ⊢
              have HTW := Lib.hid (HT.out.below Y9.out)
              obtain ⟨tn, htn⟩ : ∃ tn, tn = T.2.length := ⟨_, rfl⟩
              obtain ⟨ix, hix⟩ : ∃ ix, ix = T.2.idxOf rg := ⟨_, rfl⟩
              have HTN := Lib.hid htn; have HIX := Lib.hid hix
              have hts : tn ≤ 600 := by have := HL.out.2; rw [htn]; omega
              have HIL := Lib.hid (show ix ≤ tn from by rw [hix, htn]; exact List.idxOf_le_length)
              clear htn hix HT
              obtain ⟨wo, rfl⟩ : ∃ wo, wo = wr := ⟨wr, rfl⟩
              go_wp2_with fail
              go_loopw [8] (fun yy wi => ∃ at' : Nat, yy = .int .i64 (at' : Int) ∧ at' ≤ ix ∧ Hid (Below wo.heap.size wo wi) ∧ Hid (BX wi xb (.int .i8 kd) (.int .i16 y) (.int .i16 x)) ∧ Hid (TI w3 P gp gs.length n T.1 T.2 [] wi)) (fun y _ => ix - (intOf y).toNat)
              case atStart => exact ⟨0, rfl, Nat.zero_le _, Y9, M9, HTW⟩
              case round =>
                obtain ⟨at', rfl, hat, HY, HM, HT⟩ := hrel
                clear HTW Y9 M9
                have HGI := Lib.hid HT.out
                obtain ⟨hB, hpl, ⟨hpg, hgl⟩, GV, OV, h5, h6, h7⟩ := HT.out
                obtain ⟨AV, cV, rfl, _, hAV⟩ := own_formu h6
                have HLS := Lib.hid (LS.of_own h6)
                rw [← HTN.out] at h5 h6
                have HPL := Lib.hid hpl; have H5 := Lib.hid h5; have H6 := Lib.hid h6; have H7 := Lib.hid h7; have HPG := Lib.hid hpg; have HGPL := Lib.hid hgl
                have k1 : wr.cell? ⟨gp, 1, none⟩ = some (.slice AV tn cV) := (show BX _ gp _ _ _ from ⟨_, h5⟩).c1
                have m0 := HM.out.c0; have m1 := HM.out.c1; have m2 := HM.out.c2
                clear hB hpl hpg hgl h5 h6 h7 HGI hAV
                by_cases hti : at' < tn
                · have T2 : decide ((at' : Int) < (tn : Int)) = true := by simp; omega
                  obtain ⟨q, off, c', e, hlb, hgw0, e0, e1, e2⟩ := GL.at (w := wr) (v := .slice AV T.2.length cV) ⟨HLS.out, HGG.out⟩ at' (by rw [← HTN.out]; exact hti)
                  cases e
                  obtain ⟨z, hz⟩ : ∃ z, z = T.2.getD at' gz := ⟨_, rfl⟩
                  rw [← hz] at e0 e1 e2
                  have HZ := Lib.hid hz
                  clear hz hgw0
                  have i3 : (at' : Int) < (tn : Int) := by omega
                  by_cases hzr : z = (kd, y, x)
                  · have HEQ := Lib.hid (show ix = at' ∧ rg ∈ T.2 from by rw [HIX.out]; exact idx_here (by rw [← HTN.out]; exact hti) (by rw [HREN.out, ← hzr, HZ.out]) (by rw [← HIX.out]; exact hat))
                    subst hzr
                    have T3 : ((at' : Int) == (tn : Int)) = false := by simp; omega
                    go_upto_region 14 with fail
                    go_quiet (fail)
                    have hbn := bdr (Below.refl wr.heap.size wr) nq
                    have HT2 := Lib.hid (HT.out.below hbn)
                    replace k1 := (show (wr.drewN nq).cell? ⟨gp, 1, none⟩ = _ from k1)
                    have HTE := Lib.hid (show mgT gs (k + 1) = (T.1.set k (at' : Int), T.2) from by rw [HE.out, if_pos HEQ.out.2, ← HIX.out, HEQ.out.1])
                    clear hbn HT H5 H6 H7 HPL e0 e1 e2 m0 m1 m2 T2
                    generalize wr.drewN nq = wk at HT2 k1 ⊢
                    go_upto_region 18 with fail
                    have hpl := HT2.out.2.1
                    have hw := i16_small at' (by have := HL.out.2; rw [← HTN.out] at this; omega)
                    obtain ⟨y0, hy0⟩ : ∃ y, (i16s T.1)[k]? = some y := ⟨_, List.getElem?_eq_getElem (by rw [List.length_map, HL.out.1]; exact hlt)⟩
                    have p2 : wk.cell? ⟨P, k, none⟩ = some y0 := (hpl.cellAt k (by omega)).trans hy0
                    have p3 : wk.frozen? ⟨P, k, none⟩ = false := hpl.frozenAt k
                    have HT1 := Lib.hid (HT2.out.place k (at' : Int))
                    clear hpl hy0
                    go_wp2_with fail
                    exact ⟨⟨k + 1, by go_num, by omega, by rw [HTE.out]; exact HT1⟩, by simp [intOf]; omega⟩
                  · have HON := Lib.hid (show at' + 1 ≤ ix from by rw [HIX.out]; exact idx_on (by rw [← HTN.out]; exact hti) HZ.out (by rw [HREN.out]; exact hzr) (by rw [← HIX.out]; exact hat))
                    rcases g3_neM hzr with h1 | ⟨h1, h2⟩ | ⟨h1, h2, h3⟩
                    · have F1 : (z.1 == kd) = false := by simpa using h1
                      clear hzr
                      go_upto_region 14 with fail
                      go_quiet (fail)
                      have hbn := bdr (Below.refl wr.heap.size wr) nq
                      have HT2 := Lib.hid (HT.out.below hbn); have HM2 := Lib.hid (HM.out.below hbn); have HY2 := Lib.hid (HY.out.trans (hbn.mono HY.out.size))
                      clear hbn HT HM HY H5 H6 H7 HPL e0 e1 e2 m0 m1 m2 k1
                      generalize wr.drewN nq = wk at HT2 HM2 HY2 ⊢
                      go_wp2_with fail
                      exact ⟨⟨at' + 1, by go_num, HON.out, HY2, HM2, HT2⟩, by simp [intOf]; have := HON.out; omega⟩
                    · have F1 : (z.1 == kd) = true := by simpa using h1
                      have F2 : (z.2.1 == y) = false := by simpa using h2
                      clear hzr h1
                      go_upto_region 14 with fail
                      go_quiet (fail)
                      have hbn := bdr (Below.refl wr.heap.size wr) nq
                      have HT2 := Lib.hid (HT.out.below hbn); have HM2 := Lib.hid (HM.out.below hbn); have HY2 := Lib.hid (HY.out.trans (hbn.mono HY.out.size))
                      clear hbn HT HM HY H5 H6 H7 HPL e0 e1 e2 m0 m1 m2 k1
                      generalize wr.drewN nq = wk at HT2 HM2 HY2 ⊢
                      go_wp2_with fail
                      exact ⟨⟨at' + 1, by go_num, HON.out, HY2, HM2, HT2⟩, by simp [intOf]; have := HON.out; omega⟩
                    · have F1 : (z.1 == kd) = true := by simpa using h1
                      have F2 : (z.2.1 == y) = true := by simpa using h2
                      have F3 : (z.2.2 == x) = false := by simpa using h3
                      clear hzr h1 h2
                      go_upto_region 14 with fail
                      go_quiet (fail)
                      have hbn := bdr (Below.refl wr.heap.size wr) nq
                      have HT2 := Lib.hid (HT.out.below hbn); have HM2 := Lib.hid (HM.out.below hbn); have HY2 := Lib.hid (HY.out.trans (hbn.mono HY.out.size))
                      clear hbn HT HM HY H5 H6 H7 HPL e0 e1 e2 m0 m1 m2 k1
                      generalize wr.drewN nq = wk at HT2 HM2 HY2 ⊢
                      go_wp2_with fail
                      exact ⟨⟨at' + 1, by go_num, HON.out, HY2, HM2, HT2⟩, by simp [intOf]; have := HON.out; omega⟩
                · obtain rfl : tn = at' := by have := HIL.out; omega
                  have HEQ := Lib.hid (show rg ∉ T.2 ∧ T.2.idxOf rg = T.2.length from idx_end (by rw [← HIX.out, ← HTN.out]; exact hat))
                  have T2 : decide ((tn : Int) < (tn : Int)) = false := by simp
                  have T3 : ((tn : Int) == (tn : Int)) = true := by simp
                  go_upto_region 14 with fail
                  go_quiet (fail)
                  have hbn := bdr (Below.refl wr.heap.size wr) nq
                  have HT1 := Lib.hid (HT.out.below hbn); have M1 := Lib.hid (HM.out.below hbn)
                  have H51 := Lib.hid ((hbn.block gp HGPL.out).trans H5.out); have H61 := Lib.hid (owb H6.out hbn); have H71 := Lib.hid (owb H7.out hbn)
                  have HTE := Lib.hid (show mgT gs (k + 1) = (T.1.set k (tn : Int), T.2 ++ [rg]) from by rw [HE.out, if_neg HEQ.out.1, HEQ.out.2, HTN.out])
                  replace k1 := (show (wr.drewN nq).cell? ⟨gp, 1, none⟩ = _ from k1)
                  clear hbn HT HM HY H5 H6 H7 HPL m0 m1 m2 T2
                  generalize wr.drewN nq = wk at HT1 M1 H51 H61 H71 k1 ⊢
                  go_upto_region 17 with fail
                  have g0 := M1.out.c0; have g1 := M1.out.c1; have g2 := M1.out.c2
                  have hal := (nw1 wk (.cells (gc (kd, y, x)).toArray 67)).2.1
                  have HOA := Lib.hid (owb H61.out hal)
                  have q1 : (wk.alloc (.cells (gc (kd, y, x)).toArray 67)).cell? ⟨gp, 1, none⟩ = some (.slice AV tn cV) := (hal.cell (p := ⟨gp, 1, none⟩) HT1.out.2.2.1.2).trans k1
                  have hji := JI.out; have hjz0 := JZ0.out; have hjz1 := JZ1.out; have hjz2 := JZ2.out
                  have htl := HL.out.2
                  rw [← HTN.out] at htl
                  go_upto_region 18 with (at_builtin; refine wpList_append_own _ rfl _ _ 28 rfl (gp + 1) 67 j0 (.agg #[.int .i8 0, .int .i16 0, .int .i16 0]) 3 6 Tryd.underlying28 hji hjz0 hjz1 hjz2 rfl (by decide) _ tn _ rfl HOA.out ⟨wk.heap.size, 0, none⟩ 1 1 (gc (kd, y, x)) rfl rfl ?c1t ?c2t ?c3t ?c4t ?c5t ?_)
                  case c1t => exact (fun j u hu => gate_cells wk (kd, y, x) 67 j u hu)
                  case c2t => simp [gc, Value.oneCell']
                  case c3t => unfold maxLen; omega
                  case c4t => omega
                  case c5t => rw [World.size_alloc]; have := HT1.out.2.2.1.2; omega
                  intro s' wy hown hgrow _
                  have hgr := grown_transc (World.grownBy_alloc wk (.cells (gc (kd, y, x)).toArray 67) (Value.slice AV tn cV).ownBlock) hgrow
                  have hown2 : wy.ownsRow (gp + 1) 67 3 s' (T.2 ++ [rg]).length (gcs (T.2 ++ [rg])) := by
                    rw [HREN.out, List.length_append, ← HTN.out, show gcs (T.2 ++ [(kd, y, x)]) = gcs T.2 ++ gc (kd, y, x) from by simp [gcs]]; exact hown
                  have HT2 := Lib.hid (HT1.out.gates H51.out (by rw [← HTN.out]; exact H61.out) H71.out hgr hown2)
                  have hgb : wy.heap[gp]? = some _ := (hgr.block gp HT1.out.2.2.1.2 (fun e => by have := (own_block H61.out gp e.symm).1; omega)).trans H51.out
                  have k2 : wy.cell? ⟨gp, 1, none⟩ = some (.slice AV tn cV) := (show BX _ gp _ _ _ from ⟨_, hgb⟩).c1
                  have k3 : wy.frozen? ⟨gp, 1, none⟩ = false := frozen_of_row _ _ _ _ _ hgb
                  obtain ⟨A', c', rfl, _, _⟩ := own_formu hown2
                  have HLE := Lib.hid (show (T.2 ++ [rg]).length = tn + 1 from by rw [List.length_append, ← HTN.out]; rfl)
                  rw [HLE.out] at HT2 ⊢
                  clear T3 hown hgrow hgr hown2 hgb k1 q1 g0 g1 g2 hal hji hjz0 hjz1 hjz2
                  go_upto_region 18 with fail
                  generalize wy.setCell ⟨gp, 1, none⟩ (.slice A' (tn + 1) c') = wz at HT2 ⊢
                  clear k2 k3
                  have hpl := HT2.out.2.1
                  have hw := i16_small tn (by have := HL.out.2; rw [← HTN.out] at this; omega)
                  obtain ⟨y0, hy0⟩ : ∃ y, (i16s T.1)[k]? = some y := ⟨_, List.getElem?_eq_getElem (by rw [List.length_map, HL.out.1]; exact hlt)⟩
                  have p2 : wz.cell? ⟨P, k, none⟩ = some y0 := (hpl.cellAt k (by omega)).trans hy0
                  have p3 : wz.frozen? ⟨P, k, none⟩ = false := hpl.frozenAt k
                  have HT1 := Lib.hid (HT2.out.place k (tn : Int))
                  clear hpl hy0
                  go_wp2_with fail
                  exact ⟨⟨k + 1, by go_num, by omega, by rw [HTE.out]; exact HT1⟩, by simp [intOf]; omega⟩
            · have T4 : decide (y < x) = false := by simpa using hxy
              have HREN := Lib.hid (show rg = (kd, x, y) from by
                rw [HRG.out, HR0.out]; unfold srt; rw [if_pos HJ.out]
                show (kd, min x y, max x y) = _
                rw [Int.min_eq_left (by omega), Int.max_eq_right (by omega)])
              go_upto_region 13 with fail
              clear f0 f1 f2 r8 T4
              have HTW := Lib.hid (HT.out.below Y8.out)
              obtain ⟨tn, htn⟩ : ∃ tn, tn = T.2.length := ⟨_, rfl⟩
              obtain ⟨ix, hix⟩ : ∃ ix, ix = T.2.idxOf rg := ⟨_, rfl⟩
              have HTN := Lib.hid htn; have HIX := Lib.hid hix
              have hts : tn ≤ 600 := by have := HL.out.2; rw [htn]; omega
              have HIL := Lib.hid (show ix ≤ tn from by rw [hix, htn]; exact List.idxOf_le_length)
              clear htn hix HT
              obtain ⟨wo, rfl⟩ : ∃ wo, wo = wr := ⟨wr, rfl⟩
              go_wp2_with fail
              go_loopw [8] (fun yy wi => ∃ at' : Nat, yy = .int .i64 (at' : Int) ∧ at' ≤ ix ∧ Hid (Below wo.heap.size wo wi) ∧ Hid (BX wi xb (.int .i8 kd) (.int .i16 x) (.int .i16 y)) ∧ Hid (TI w3 P gp gs.length n T.1 T.2 [] wi)) (fun y _ => ix - (intOf y).toNat)
              case atStart => exact ⟨0, rfl, Nat.zero_le _, Y8, M8, HTW⟩
              case round =>
                obtain ⟨at', rfl, hat, HY, HM, HT⟩ := hrel
                clear HTW Y8 M8
                have HGI := Lib.hid HT.out
                obtain ⟨hB, hpl, ⟨hpg, hgl⟩, GV, OV, h5, h6, h7⟩ := HT.out
                obtain ⟨AV, cV, rfl, _, hAV⟩ := own_formu h6
                have HLS := Lib.hid (LS.of_own h6)
                rw [← HTN.out] at h5 h6
                have HPL := Lib.hid hpl; have H5 := Lib.hid h5; have H6 := Lib.hid h6; have H7 := Lib.hid h7; have HPG := Lib.hid hpg; have HGPL := Lib.hid hgl
                have k1 : wr.cell? ⟨gp, 1, none⟩ = some (.slice AV tn cV) := (show BX _ gp _ _ _ from ⟨_, h5⟩).c1
                have m0 := HM.out.c0; have m1 := HM.out.c1; have m2 := HM.out.c2
                clear hB hpl hpg hgl h5 h6 h7 HGI hAV
                by_cases hti : at' < tn
                · have T2 : decide ((at' : Int) < (tn : Int)) = true := by simp; omega
                  obtain ⟨q, off, c', e, hlb, hgw0, e0, e1, e2⟩ := GL.at (w := wr) (v := .slice AV T.2.length cV) ⟨HLS.out, HGG.out⟩ at' (by rw [← HTN.out]; exact hti)
                  cases e
                  obtain ⟨z, hz⟩ : ∃ z, z = T.2.getD at' gz := ⟨_, rfl⟩
                  rw [← hz] at e0 e1 e2
                  have HZ := Lib.hid hz
                  clear hz hgw0
                  have i3 : (at' : Int) < (tn : Int) := by omega
                  by_cases hzr : z = (kd, x, y)
                  · have HEQ := Lib.hid (show ix = at' ∧ rg ∈ T.2 from by rw [HIX.out]; exact idx_here (by rw [← HTN.out]; exact hti) (by rw [HREN.out, ← hzr, HZ.out]) (by rw [← HIX.out]; exact hat))
                    subst hzr
                    have T3 : ((at' : Int) == (tn : Int)) = false := by simp; omega
                    go_upto_region 14 with fail
                    go_quiet (fail)
                    have hbn := bdr (Below.refl wr.heap.size wr) nq
                    have HT2 := Lib.hid (HT.out.below hbn)
                    replace k1 := (show (wr.drewN nq).cell? ⟨gp, 1, none⟩ = _ from k1)
                    have HTE := Lib.hid (show mgT gs (k + 1) = (T.1.set k (at' : Int), T.2) from by rw [HE.out, if_pos HEQ.out.2, ← HIX.out, HEQ.out.1])
                    clear hbn HT H5 H6 H7 HPL e0 e1 e2 m0 m1 m2 T2
                    generalize wr.drewN nq = wk at HT2 k1 ⊢
                    go_upto_region 18 with fail
                    have hpl := HT2.out.2.1
                    have hw := i16_small at' (by have := HL.out.2; rw [← HTN.out] at this; omega)
                    obtain ⟨y0, hy0⟩ : ∃ y, (i16s T.1)[k]? = some y := ⟨_, List.getElem?_eq_getElem (by rw [List.length_map, HL.out.1]; exact hlt)⟩
                    have p2 : wk.cell? ⟨P, k, none⟩ = some y0 := (hpl.cellAt k (by omega)).trans hy0
                    have p3 : wk.frozen? ⟨P, k, none⟩ = false := hpl.frozenAt k
                    have HT1 := Lib.hid (HT2.out.place k (at' : Int))
                    clear hpl hy0
                    go_wp2_with fail
                    exact ⟨⟨k + 1, by go_num, by omega, by rw [HTE.out]; exact HT1⟩, by simp [intOf]; omega⟩
                  · have HON := Lib.hid (show at' + 1 ≤ ix from by rw [HIX.out]; exact idx_on (by rw [← HTN.out]; exact hti) HZ.out (by rw [HREN.out]; exact hzr) (by rw [← HIX.out]; exact hat))
                    rcases g3_neM hzr with h1 | ⟨h1, h2⟩ | ⟨h1, h2, h3⟩
                    · have F1 : (z.1 == kd) = false := by simpa using h1
                      clear hzr
                      go_upto_region 14 with fail
                      go_quiet (fail)
                      have hbn := bdr (Below.refl wr.heap.size wr) nq
                      have HT2 := Lib.hid (HT.out.below hbn); have HM2 := Lib.hid (HM.out.below hbn); have HY2 := Lib.hid (HY.out.trans (hbn.mono HY.out.size))
                      clear hbn HT HM HY H5 H6 H7 HPL e0 e1 e2 m0 m1 m2 k1
                      generalize wr.drewN nq = wk at HT2 HM2 HY2 ⊢
                      go_wp2_with fail
                      exact ⟨⟨at' + 1, by go_num, HON.out, HY2, HM2, HT2⟩, by simp [intOf]; have := HON.out; omega⟩
                    · have F1 : (z.1 == kd) = true := by simpa using h1
                      have F2 : (z.2.1 == x) = false := by simpa using h2
                      clear hzr h1
                      go_upto_region 14 with fail
                      go_quiet (fail)
                      have hbn := bdr (Below.refl wr.heap.size wr) nq
                      have HT2 := Lib.hid (HT.out.below hbn); have HM2 := Lib.hid (HM.out.below hbn); have HY2 := Lib.hid (HY.out.trans (hbn.mono HY.out.size))
                      clear hbn HT HM HY H5 H6 H7 HPL e0 e1 e2 m0 m1 m2 k1
                      generalize wr.drewN nq = wk at HT2 HM2 HY2 ⊢
                      go_wp2_with fail
                      exact ⟨⟨at' + 1, by go_num, HON.out, HY2, HM2, HT2⟩, by simp [intOf]; have := HON.out; omega⟩
                    · have F1 : (z.1 == kd) = true := by simpa using h1
                      have F2 : (z.2.1 == x) = true := by simpa using h2
                      have F3 : (z.2.2 == y) = false := by simpa using h3
                      clear hzr h1 h2
                      go_upto_region 14 with fail
                      go_quiet (fail)
                      have hbn := bdr (Below.refl wr.heap.size wr) nq
                      have HT2 := Lib.hid (HT.out.below hbn); have HM2 := Lib.hid (HM.out.below hbn); have HY2 := Lib.hid (HY.out.trans (hbn.mono HY.out.size))
                      clear hbn HT HM HY H5 H6 H7 HPL e0 e1 e2 m0 m1 m2 k1
                      generalize wr.drewN nq = wk at HT2 HM2 HY2 ⊢
                      go_wp2_with fail
                      exact ⟨⟨at' + 1, by go_num, HON.out, HY2, HM2, HT2⟩, by simp [intOf]; have := HON.out; omega⟩
                · obtain rfl : tn = at' := by have := HIL.out; omega
                  have HEQ := Lib.hid (show rg ∉ T.2 ∧ T.2.idxOf rg = T.2.length from idx_end (by rw [← HIX.out, ← HTN.out]; exact hat))
                  have T2 : decide ((tn : Int) < (tn : Int)) = false := by simp
                  have T3 : ((tn : Int) == (tn : Int)) = true := by simp
                  go_upto_region 14 with fail
                  go_quiet (fail)
                  have hbn := bdr (Below.refl wr.heap.size wr) nq
                  have HT1 := Lib.hid (HT.out.below hbn); have M1 := Lib.hid (HM.out.below hbn)
                  have H51 := Lib.hid ((hbn.block gp HGPL.out).trans H5.out); have H61 := Lib.hid (owb H6.out hbn); have H71 := Lib.hid (owb H7.out hbn)
                  have HTE := Lib.hid (show mgT gs (k + 1) = (T.1.set k (tn : Int), T.2 ++ [rg]) from by rw [HE.out, if_neg HEQ.out.1, HEQ.out.2, HTN.out])
                  replace k1 := (show (wr.drewN nq).cell? ⟨gp, 1, none⟩ = _ from k1)
                  clear hbn HT HM HY H5 H6 H7 HPL m0 m1 m2 T2
                  generalize wr.drewN nq = wk at HT1 M1 H51 H61 H71 k1 ⊢
                  go_upto_region 17 with fail
                  have g0 := M1.out.c0; have g1 := M1.out.c1; have g2 := M1.out.c2
                  have hal := (nw1 wk (.cells (gc (kd, x, y)).toArray 67)).2.1
                  have HOA := Lib.hid (owb H61.out hal)
                  have q1 : (wk.alloc (.cells (gc (kd, x, y)).toArray 67)).cell? ⟨gp, 1, none⟩ = some (.slice AV tn cV) := (hal.cell (p := ⟨gp, 1, none⟩) HT1.out.2.2.1.2).trans k1
                  have hji := JI.out; have hjz0 := JZ0.out; have hjz1 := JZ1.out; have hjz2 := JZ2.out
                  have htl := HL.out.2
                  rw [← HTN.out] at htl
                  go_upto_region 18 with (at_builtin; refine wpList_append_own _ rfl _ _ 28 rfl (gp + 1) 67 j0 (.agg #[.int .i8 0, .int .i16 0, .int .i16 0]) 3 6 Tryd.underlying28 hji hjz0 hjz1 hjz2 rfl (by decide) _ tn _ rfl HOA.out ⟨wk.heap.size, 0, none⟩ 1 1 (gc (kd, x, y)) rfl rfl ?c1u ?c2u ?c3u ?c4u ?c5u ?_)
                  case c1u => exact (fun j u hu => gate_cells wk (kd, x, y) 67 j u hu)
                  case c2u => simp [gc, Value.oneCell']
                  case c3u => unfold maxLen; omega
                  case c4u => omega
                  case c5u => rw [World.size_alloc]; have := HT1.out.2.2.1.2; omega
                  intro s' wy hown hgrow _
                  have hgr := grown_transc (World.grownBy_alloc wk (.cells (gc (kd, x, y)).toArray 67) (Value.slice AV tn cV).ownBlock) hgrow
                  have hown2 : wy.ownsRow (gp + 1) 67 3 s' (T.2 ++ [rg]).length (gcs (T.2 ++ [rg])) := by
                    rw [HREN.out, List.length_append, ← HTN.out, show gcs (T.2 ++ [(kd, x, y)]) = gcs T.2 ++ gc (kd, x, y) from by simp [gcs]]; exact hown
                  have HT2 := Lib.hid (HT1.out.gates H51.out (by rw [← HTN.out]; exact H61.out) H71.out hgr hown2)
                  have hgb : wy.heap[gp]? = some _ := (hgr.block gp HT1.out.2.2.1.2 (fun e => by have := (own_block H61.out gp e.symm).1; omega)).trans H51.out
                  have k2 : wy.cell? ⟨gp, 1, none⟩ = some (.slice AV tn cV) := (show BX _ gp _ _ _ from ⟨_, hgb⟩).c1
                  have k3 : wy.frozen? ⟨gp, 1, none⟩ = false := frozen_of_row _ _ _ _ _ hgb
                  obtain ⟨A', c', rfl, _, _⟩ := own_formu hown2
                  have HLE := Lib.hid (show (T.2 ++ [rg]).length = tn + 1 from by rw [List.length_append, ← HTN.out]; rfl)
                  rw [HLE.out] at HT2 ⊢
                  clear T3 hown hgrow hgr hown2 hgb k1 q1 g0 g1 g2 hal hji hjz0 hjz1 hjz2
                  go_upto_region 18 with fail
                  generalize wy.setCell ⟨gp, 1, none⟩ (.slice A' (tn + 1) c') = wz at HT2 ⊢
                  clear k2 k3
                  have hpl := HT2.out.2.1
                  have hw := i16_small tn (by have := HL.out.2; rw [← HTN.out] at this; omega)
                  obtain ⟨y0, hy0⟩ : ∃ y, (i16s T.1)[k]? = some y := ⟨_, List.getElem?_eq_getElem (by rw [List.length_map, HL.out.1]; exact hlt)⟩
                  have p2 : wz.cell? ⟨P, k, none⟩ = some y0 := (hpl.cellAt k (by omega)).trans hy0
                  have p3 : wz.frozen? ⟨P, k, none⟩ = false := hpl.frozenAt k
                  have HT1 := Lib.hid (HT2.out.place k (tn : Int))
                  clear hpl hy0
                  go_wp2_with fail
                  exact ⟨⟨k + 1, by go_num, by omega, by rw [HTE.out]; exact HT1⟩, by simp [intOf]; omega⟩

      · obtain rfl : k = gs.length := by omega
        have T1 : decide ((gs.length : Int) < (gs.length : Int)) = false := by simp
        obtain ⟨T, hT⟩ : ∃ T, T = (mgT gs gs.length) := ⟨_, rfl⟩
        rw [← hT] at HT
        have HTT := Lib.hid hT
        have hl := mgT_len gs gs.length
        rw [← hT] at hl
        have HL := Lib.hid hl
        clear hl hT CR
        go_wp2_with fail
        go_loopw [9] (fun y wr => ∃ j : Nat, y = .int .i64 (j : Int) ∧ j ≤ os.length ∧ Hid (TI w3 P gp gs.length n T.1 T.2 ((os.take j).map (plc T.1)) wr)) (fun y _ => os.length - (intOf y).toNat)
        case atStart => exact ⟨0, rfl, Nat.zero_le _, HT⟩
        case round =>
          obtain ⟨j, rfl, hj, HJ⟩ := hrel
          clear HT
          have CJ := Lib.hid (C3.out.below HJ.out.1)
          have c2' := CJ.out.c2
          clear c1 T1
          by_cases hlt : j < os.length
          · have T1 : decide ((j : Int) < (os.length : Int)) = true := by simp; omega
            have i1 : (j : Int) < (os.length : Int) := by omega
            obtain ⟨b, off, c', e, hlb, hgw, d0⟩ := (HO.out.below (HB3.out.trans (HJ.out.1.mono HB3.out.size))).at j hlt
            cases e
            have hbz := out_of HC.out j hlt
            obtain ⟨z, hz⟩ : ∃ z, z = os.getD j 0 := ⟨_, rfl⟩
            rw [← hz] at d0 hgw hbz
            obtain ⟨zn, rfl⟩ : ∃ zn : Nat, z = (zn : Int) := ⟨z.toNat, by omega⟩
            have i2 : (zn : Int) < (gs.length : Int) := hbz.2
            obtain ⟨x, hx⟩ : ∃ x, x = plc T.1 (zn : Int) := ⟨_, rfl⟩
            obtain ⟨zs, hzs⟩ : ∃ zs, zs = (os.take j).map (plc T.1) := ⟨_, rfl⟩
            rw [← hzs] at HJ
            have HZL := Lib.hid (show zs.length = j from by rw [hzs, List.length_map, List.length_take]; omega)
            have HZE := Lib.hid (show (os.take (j + 1)).map (plc T.1) = zs ++ [x] from by
              rw [List.take_add_one, List.map_append, ← hzs, hx, hz, List.getElem?_eq_getElem hlt, List.getD, List.getElem?_eq_getElem hlt]; rfl)
            have HZ := Lib.hid hz; have HX := Lib.hid hx
            clear hz hx hzs hgw hbz
            have HKS := Lib.hid (fun (W : World) (h1 : Below w3.heap.size w3 W) (h2 : W.ownsRow w3.heap.size 65 1 (.slice (some ⟨P, 0, none⟩) gs.length gs.length) gs.length (i16s T.1)) => show W.cell? ⟨w.heap.size, 2, none⟩ = some (.slice (some ⟨b, off, none⟩) os.length c2) ∧ W.cell? ⟨b, off + j, none⟩ = some (.int .i16 (zn : Int)) ∧ W.cell? ⟨P, zn, none⟩ = some (.int .i16 x) from by
              refine ⟨(C3.out.below h1).c2, ?_, ?_⟩
              · obtain ⟨b', off', c'', e, _, _, d⟩ := (HO.out.below (HB3.out.trans (h1.mono HB3.out.size))).at j hlt
                cases e
                rw [← HZ.out] at d; exact d
              · rw [h2.cellAt zn (by omega), List.getElem?_map, HX.out]; unfold plc; rw [show ((zn : Int)).toNat = zn from rfl, List.getD, List.getElem?_eq_getElem (by rw [HL.out.1]; omega)]; rfl)
            obtain ⟨hB, hpl, ⟨hpg, hgl⟩, GV, OV, h5, h6, h7⟩ := HJ.out
            rw [HZL.out] at h7
            obtain ⟨AV, cV, rfl, _, _⟩ := own_formu h7
            have H5 := Lib.hid h5; have H6 := Lib.hid h6; have H7 := Lib.hid h7
            clear hB hpl hpg hgl h5 h6 h7 d0
            go_upto_region 22 with fail
            refine wp_region_held_drew (S := fun u => u.cell? ⟨w.heap.size, 2, none⟩ = some (.slice (some ⟨b, off, none⟩) os.length c2) ∧ u.cell? ⟨b, off + j, none⟩ = some (.int .i16 (zn : Int)) ∧ u.cell? ⟨P, zn, none⟩ = some (.int .i16 x)) (by kernel_rfl) ?hS0 (fun hS => ?_)
            case hS0 => exact HKS.out _ (bdr HJ.out.1 1) HJ.out.2.1
            have hbd := bdrew1 wr
            have HTD := Lib.hid (HJ.out.below hbd)
            have H5D := Lib.hid ((hbd.block gp HJ.out.2.2.1.2).trans H5.out); have H6D := Lib.hid (owb H6.out hbd); have H7D := Lib.hid (owb H7.out hbd)
            clear hbd c2' HJ H5 H6 H7
            generalize wr.drew = wd at hS HTD H5D H6D H7D ⊢
            have k0 : wd.cell? ⟨gp, 2, none⟩ = some (.slice AV j cV) := (show BX _ gp _ _ _ from ⟨_, H5D.out⟩).c2
            refine takeHd (i := 0) (v := ?v0o) rfl rfl (by kernel_rfl) (by kernel_rfl) (by kernel_rfl) (fun _ _ _ h => h) rfl ?hy0o hS ?rs0o
            case hy0o => (intro wq hq; obtain ⟨hq1, hq2, hq3⟩ := hq; go_simp; try (with_reducible rfl))
            simp only [Act.put, List.setIfInBounds_toArray, List.set_cons_zero, List.set_cons_succ]
            refine takeHd (i := 2) (v := ?v2o) rfl rfl (by kernel_rfl) (by kernel_rfl) (by kernel_rfl) (fun _ _ _ h => h) rfl ?hy2o hS ?rs2o
            case hy2o => (intro wq hq; obtain ⟨hq1, hq2, hq3⟩ := hq; go_simp; try (with_reducible rfl))
            simp only [Act.put, List.setIfInBounds_toArray, List.set_cons_zero, List.set_cons_succ]
            refine takeHd (i := 3) (v := ?v3o) rfl rfl (by kernel_rfl) (by kernel_rfl) (by kernel_rfl) (fun _ _ _ h => h) rfl ?hy3o hS ?rs3o
            case hy3o => (intro wq hq; obtain ⟨hq1, hq2, hq3⟩ := hq; go_simp; try (with_reducible rfl))
            simp only [Act.put, List.setIfInBounds_toArray, List.set_cons_zero, List.set_cons_succ]
            refine takeHd (i := 4) (v := ?v4o) rfl rfl (by kernel_rfl) (by kernel_rfl) (by kernel_rfl) (fun _ _ _ h => h) rfl ?hy4o hS ?rs4o
            case hy4o => (intro wq hq; obtain ⟨hq1, hq2, hq3⟩ := hq; go_simp; try (with_reducible rfl))
            simp only [Act.put, List.setIfInBounds_toArray, List.set_cons_zero, List.set_cons_succ]
            refine takeHd (i := 5) (v := ?v5o) rfl rfl (by kernel_rfl) (by kernel_rfl) (by kernel_rfl) (fun _ _ _ h => h) rfl ?hy5o hS ?rs5o
            case hy5o => (intro wq hq; obtain ⟨hq1, hq2, hq3⟩ := hq; go_simp; try (with_reducible rfl))
            simp only [Act.put, List.setIfInBounds_toArray, List.set_cons_zero, List.set_cons_succ]
            refine takeHd (i := 6) (v := ?v6o) rfl rfl (by kernel_rfl) (by kernel_rfl) (by kernel_rfl) (fun _ _ _ h => h) rfl ?hy6o hS ?rs6o
            case hy6o => (intro wq hq; obtain ⟨hq1, hq2, hq3⟩ := hq; go_simp; try (with_reducible rfl))
            simp only [Act.put, List.setIfInBounds_toArray, List.set_cons_zero, List.set_cons_succ]
            refine takeHd (i := 7) (v := ?v7o) rfl rfl (by kernel_rfl) (by kernel_rfl) (by kernel_rfl) (fun _ _ _ h => h) rfl ?hy7o hS ?rs7o
            case hy7o => (intro wq hq; obtain ⟨hq1, hq2, hq3⟩ := hq; go_simp; try (with_reducible rfl))
            simp only [Act.put, List.setIfInBounds_toArray, List.set_cons_zero, List.set_cons_succ]
            refine takeHd (i := 8) (v := ?v8o) rfl rfl (by kernel_rfl) (by kernel_rfl) (by kernel_rfl) (fun _ _ _ h => h) rfl ?hy8o hS ?rs8o
            case hy8o => (intro wq hq; obtain ⟨hq1, hq2, hq3⟩ := hq; go_simp; try (with_reducible rfl))
            simp only [Act.put, List.setIfInBounds_toArray, List.set_cons_zero, List.set_cons_succ]
            refine takeHd (i := 9) (v := ?v9o) rfl rfl (by kernel_rfl) (by kernel_rfl) (by kernel_rfl) (fun _ _ _ h => h) rfl ?hy9o hS ?rs9o
            case hy9o => (intro wq hq; obtain ⟨hq1, hq2, hq3⟩ := hq; go_simp; try (with_reducible rfl))
            simp only [Act.put, List.setIfInBounds_toArray, List.set_cons_zero, List.set_cons_succ]
            refine wpAnyH_ready (rs := [1, 10]) (by kernel_rfl) (by simp) ?_
            refine AllReadyH.cons rfl (fun K hK => ?_) (AllReadyH.cons rfl (fun K hK => ?_) AllReadyH.nil)
            · go_simp
              refine hK.out _ wd hS (fun hS => ?_)
              clear hK
              try simp only [Act.put, List.setIfInBounds_toArray, List.set_cons_zero, List.set_cons_succ]
              refine wpAnyH_ready (rs := [10]) (by kernel_rfl) (by simp) ?_
              refine AllReadyH.cons rfl (fun K hK => ?_) AllReadyH.nil
              go_simp
              have hbx := (nw1 wd (.cells #[.int .i16 x] 65)).2.1
              have HTA := Lib.hid (HTD.out.below hbx)
              have HCE := Lib.hid (one_cellE wd (.int .i16 x) 65)
              have H5A := Lib.hid ((hbx.block gp HTD.out.2.2.1.2).trans H5D.out); have H6A := Lib.hid (owb H6D.out hbx); have H7A := Lib.hid (owb H7D.out hbx)
              refine hK.out _ (wd.alloc (.cells #[.int .i16 x] 65)) (HKS.out _ HTA.out.1 HTA.out.2.1) (fun hS => ?_)
              clear hK hbx
              obtain ⟨bd, hbd⟩ : ∃ bd, bd = wd.heap.size := ⟨_, rfl⟩
              rw [← hbd] at HCE ⊢
              clear hbd k0
              generalize wd.alloc (.cells #[.int .i16 x] 65) = wa at hS HTA HCE H5A H6A H7A ⊢
              have k0 : wa.cell? ⟨gp, 2, none⟩ = some (.slice AV j cV) := (show BX _ gp _ _ _ from ⟨_, H5A.out⟩).c2
              try simp only [Act.put, List.setIfInBounds_toArray, List.set_cons_zero, List.set_cons_succ]
              refine wpAnyH_ready (rs := [11]) (by kernel_rfl) (by simp) ?_
              refine AllReadyH.cons rfl (fun K hK => ?_) AllReadyH.nil
              simp only [List.getElem_toArray, List.getElem_cons_zero, List.getElem_cons_succ]
              refine wp_append_own _ _ _ 24 rfl (gp + 1) 65 i0 (.int .i16 0) 1 2 Tryd.underlying24 HI.out HZ0.out HZ1.out HZ2.out rfl (by decide) _ j _ rfl H7A.out ⟨bd, 0, none⟩ 1 1 [.int .i16 x] rfl rfl ?u1 ?u2 ?u3 ?u4 ?u5 ?_
              case u1 => exact HCE.out
              case u2 => simp [Value.oneCell']
              case u3 => unfold maxLen; omega
              case u4 => omega
              case u5 => have := HTA.out.2.2.1.2; omega
              intro s' wy hown hgrow _
              have hown2 : wy.ownsRow (gp + 1) 65 1 s' (zs ++ [x]).length (i16s (zs ++ [x])) := by
                rw [List.length_append, HZL.out, show i16s (zs ++ [x]) = i16s zs ++ [Value.int .i16 x] from by simp [i16s]]; exact hown
              have HT2 := Lib.hid (HTA.out.outs H5A.out H6A.out (by rw [HZL.out]; exact H7A.out) hgrow hown2)
              have hgb : wy.heap[gp]? = some _ := (hgrow.block gp HTA.out.2.2.1.2 (fun e => by have := (own_block H7A.out gp e.symm).1; omega)).trans H5A.out
              have k2 : wy.cell? ⟨gp, 2, none⟩ = some (.slice AV j cV) := (show BX _ gp _ _ _ from ⟨_, hgb⟩).c2
              have k3 : wy.frozen? ⟨gp, 2, none⟩ = false := frozen_of_row _ _ _ _ _ hgb
              have hBy : Below w3.heap.size w3 wy := HTA.out.1.grown hgrow HTA.out.1.size (fun z hz => by have := (own_block H7A.out z hz).1; have := HTA.out.2.2.1.1; have := (own_block HTA.out.2.1 P rfl).1; omega)
              have hPy := own_grown HTA.out.2.1 hgrow (fun z hz e => by have := (own_block H7A.out z e).1; have e2 : P = z := (by simpa [Value.ownBlock] using hz); have := HTA.out.2.2.1.1; omega)
              obtain ⟨A', c', rfl, _, _⟩ := own_formu hown2
              have HLE := Lib.hid (show (zs ++ [x]).length = j + 1 from by rw [List.length_append, HZL.out]; rfl)
              rw [HLE.out] at HT2 ⊢
              refine hK.out _ wy (HKS.out _ hBy hPy) (fun hS => ?_)
              clear hK hown hgrow hown2 hgb hBy hPy k0
              try simp only [Act.put, List.setIfInBounds_toArray, List.set_cons_zero, List.set_cons_succ]
              refine takeHd (i := 12) (v := ?v12u) rfl rfl (by kernel_rfl) (by kernel_rfl) (by kernel_rfl) (fun _ _ _ h => h) rfl ?hy12u hS ?rs12u
              case hy12u => (intro wq hq; obtain ⟨hq1, hq2, hq3⟩ := hq; go_simp; try (with_reducible rfl))
              simp only [Act.put, List.setIfInBounds_toArray, List.set_cons_zero, List.set_cons_succ]
              refine wpAnyH_ready (rs := [13]) (by kernel_rfl) (by simp) ?_
              refine AllReadyH.cons rfl (fun K hK => ?_) AllReadyH.nil
              go_simp
              refine hK.out _ (wy.setCell ⟨gp, 2, none⟩ (.slice A' (j + 1) c')) (HKS.out _ HT2.out.1 HT2.out.2.1) (fun hS => ?_)
              clear hK k2 k3
              generalize wy.setCell ⟨gp, 2, none⟩ (.slice A' (j + 1) c') = wz at hS HT2 ⊢
              try simp only [Act.put, List.setIfInBounds_toArray, List.set_cons_zero, List.set_cons_succ]
              refine wpAnyH_done (by kernel_rfl) ?_ _
              clear hS
              go_wp2_with fail
              exact ⟨⟨j + 1, by go_num, by omega, by rw [HZE.out]; exact HT2⟩, by simp [intOf]; omega⟩
            · go_simp
              have hbx := (nw1 wd (.cells #[.int .i16 x] 65)).2.1
              have HTA := Lib.hid (HTD.out.below hbx)
              have HCE := Lib.hid (one_cellE wd (.int .i16 x) 65)
              have H5A := Lib.hid ((hbx.block gp HTD.out.2.2.1.2).trans H5D.out); have H6A := Lib.hid (owb H6D.out hbx); have H7A := Lib.hid (owb H7D.out hbx)
              refine hK.out _ (wd.alloc (.cells #[.int .i16 x] 65)) (HKS.out _ HTA.out.1 HTA.out.2.1) (fun hS => ?_)
              clear hK hbx
              obtain ⟨bd, hbd⟩ : ∃ bd, bd = wd.heap.size := ⟨_, rfl⟩
              rw [← hbd] at HCE ⊢
              clear hbd k0
              generalize wd.alloc (.cells #[.int .i16 x] 65) = wa at hS HTA HCE H5A H6A H7A ⊢
              have k0 : wa.cell? ⟨gp, 2, none⟩ = some (.slice AV j cV) := (show BX _ gp _ _ _ from ⟨_, H5A.out⟩).c2
              try simp only [Act.put, List.setIfInBounds_toArray, List.set_cons_zero, List.set_cons_succ]
              refine wpAnyH_ready (rs := [1]) (by kernel_rfl) (by simp) ?_
              refine AllReadyH.cons rfl (fun K hK => ?_) AllReadyH.nil
              go_simp
              refine hK.out _ wa hS (fun hS => ?_)
              clear hK
              try simp only [Act.put, List.setIfInBounds_toArray, List.set_cons_zero, List.set_cons_succ]
              refine wpAnyH_ready (rs := [11]) (by kernel_rfl) (by simp) ?_
              refine AllReadyH.cons rfl (fun K hK => ?_) AllReadyH.nil
              simp only [List.getElem_toArray, List.getElem_cons_zero, List.getElem_cons_succ]
              refine wp_append_own _ _ _ 24 rfl (gp + 1) 65 i0 (.int .i16 0) 1 2 Tryd.underlying24 HI.out HZ0.out HZ1.out HZ2.out rfl (by decide) _ j _ rfl H7A.out ⟨bd, 0, none⟩ 1 1 [.int .i16 x] rfl rfl ?x1 ?x2 ?x3 ?x4 ?x5 ?_
              case x1 => exact HCE.out
              case x2 => simp [Value.oneCell']
              case x3 => unfold maxLen; omega
              case x4 => omega
              case x5 => have := HTA.out.2.2.1.2; omega
              intro s' wy hown hgrow _
              have hown2 : wy.ownsRow (gp + 1) 65 1 s' (zs ++ [x]).length (i16s (zs ++ [x])) := by
                rw [List.length_append, HZL.out, show i16s (zs ++ [x]) = i16s zs ++ [Value.int .i16 x] from by simp [i16s]]; exact hown
              have HT2 := Lib.hid (HTA.out.outs H5A.out H6A.out (by rw [HZL.out]; exact H7A.out) hgrow hown2)
              have hgb : wy.heap[gp]? = some _ := (hgrow.block gp HTA.out.2.2.1.2 (fun e => by have := (own_block H7A.out gp e.symm).1; omega)).trans H5A.out
              have k2 : wy.cell? ⟨gp, 2, none⟩ = some (.slice AV j cV) := (show BX _ gp _ _ _ from ⟨_, hgb⟩).c2
              have k3 : wy.frozen? ⟨gp, 2, none⟩ = false := frozen_of_row _ _ _ _ _ hgb
              have hBy : Below w3.heap.size w3 wy := HTA.out.1.grown hgrow HTA.out.1.size (fun z hz => by have := (own_block H7A.out z hz).1; have := HTA.out.2.2.1.1; have := (own_block HTA.out.2.1 P rfl).1; omega)
              have hPy := own_grown HTA.out.2.1 hgrow (fun z hz e => by have := (own_block H7A.out z e).1; have e2 : P = z := (by simpa [Value.ownBlock] using hz); have := HTA.out.2.2.1.1; omega)
              obtain ⟨A', c', rfl, _, _⟩ := own_formu hown2
              have HLE := Lib.hid (show (zs ++ [x]).length = j + 1 from by rw [List.length_append, HZL.out]; rfl)
              rw [HLE.out] at HT2 ⊢
              refine hK.out _ wy (HKS.out _ hBy hPy) (fun hS => ?_)
              clear hK hown hgrow hown2 hgb hBy hPy k0
              try simp only [Act.put, List.setIfInBounds_toArray, List.set_cons_zero, List.set_cons_succ]
              refine takeHd (i := 12) (v := ?v12x) rfl rfl (by kernel_rfl) (by kernel_rfl) (by kernel_rfl) (fun _ _ _ h => h) rfl ?hy12x hS ?rs12x
              case hy12x => (intro wq hq; obtain ⟨hq1, hq2, hq3⟩ := hq; go_simp; try (with_reducible rfl))
              simp only [Act.put, List.setIfInBounds_toArray, List.set_cons_zero, List.set_cons_succ]
              refine wpAnyH_ready (rs := [13]) (by kernel_rfl) (by simp) ?_
              refine AllReadyH.cons rfl (fun K hK => ?_) AllReadyH.nil
              go_simp
              refine hK.out _ (wy.setCell ⟨gp, 2, none⟩ (.slice A' (j + 1) c')) (HKS.out _ HT2.out.1 HT2.out.2.1) (fun hS => ?_)
              clear hK k2 k3
              generalize wy.setCell ⟨gp, 2, none⟩ (.slice A' (j + 1) c') = wz at hS HT2 ⊢
              try simp only [Act.put, List.setIfInBounds_toArray, List.set_cons_zero, List.set_cons_succ]
              refine wpAnyH_done (by kernel_rfl) ?_ _
              clear hS
              go_wp2_with fail
              exact ⟨⟨j + 1, by go_num, by omega, by rw [HZE.out]; exact HT2⟩, by simp [intOf]; omega⟩
          · obtain rfl : j = os.length := by omega
            have T1 : decide ((os.length : Int) < (os.length : Int)) = false := by simp
            have HMP := Lib.hid (show ((os.take os.length).map (plc T.1)) = os.map (plc T.1) from by rw [List.take_of_length_le (Nat.le_refl _)])
            rw [HMP.out] at HJ
            obtain ⟨hB, hpl, ⟨hpg, hgl⟩, GV, OV, h5, h6, h7⟩ := HJ.out
            obtain ⟨AG, cG, rfl, _, _⟩ := own_formu h6
            obtain ⟨AO, cO, rfl, _, _⟩ := own_formu h7
            have m5 : BX wr gp (.int .i8 n) (.slice AG T.2.length cG) (.slice AO (os.map (plc T.1)).length cO) := ⟨_, h5⟩
            have g0 := m5.c0; have g1 := m5.c1; have g2 := m5.c2
            have M7 := Lib.hid (M3.out.below hB)
            have r7 := M7.out.there
            have B7 := Lib.hid (HB3.out.trans (hB.mono HB3.out.size))
            have hP3 := (own_block hpl P rfl).1
            have HW4 : Hid (w.heap.size + 1 < gp + 1) := Lib.hid (by have := HW3.out; omega)
            have TYP := Lib.hid (show ∀ k, (Value.slice AG T.2.length cG).ownBlock = some k → (Value.slice AO (os.map (plc T.1)).length cO).ownBlock ≠ some k from fun k hk hk2 => by
              obtain ⟨c1, h1⟩ := own_type h6 k hk
              obtain ⟨c2, h2⟩ := own_type h7 k hk2
              rw [h1] at h2; cases h2)
            obtain ⟨na, hna⟩ : ∃ na, na = T.2.length := ⟨_, rfl⟩
            obtain ⟨nb, hnb⟩ : ∃ nb, nb = (os.map (plc T.1)).length := ⟨_, rfl⟩
            rw [← hna] at h6 g1 TYP
            rw [← hnb] at h7 g2 TYP
            have HNA := Lib.hid hna; have HNB := Lib.hid hnb
            have O7 := Lib.hid h6; have P7 := Lib.hid h7
            clear hB hpl hpg hgl h5 h6 h7 m5 hP3 hna hnb HJ CJ
            go_wp2_with (guard_target =~ wpList _ _ _ (⟨_, Op.store 30 _ _, _, _, _, _⟩ :: _) _ _; refine wpList_store_mid rfl 30 _ _ rfl (w.heap.size + 1) 0 #[.int .i8 n, .slice AG na cG, .slice AO nb cO] rfl rfl r7 (by kernel_rfl) (three_one rfl rfl rfl) ?_)
            obtain ⟨t8, h8⟩ := M7.out.puts (.int .i8 n) (.slice AG na cG) (.slice AO nb cO)
            refine bodyPost_ret (v := .tuple #[.agg #[.int .i8 n, .slice AG na cG, .slice AO nb cO], .int .i64 0]) ?_ rfl ⟨_, rfl, bsets (by omega) _ 0 wr B7.out, _, _, rfl, hn, HGW.out, HIW.out, ?_, ?_, ?_, ?_, ?_⟩
            · exact results_cell_tmp rfl _ _ (w.heap.size + 1) _ _ (0, 0) _ _ rfl rfl h8 Tryd.underlying30 rfl (by kernel_rfl)
            · rw [← HTT.out, ← HNA.out]; exact own_low (own_sets O7.out HW4.out _ 0) (by have := HW4.out; omega)
            · rw [← HTT.out, ← HNB.out]; exact own_low (own_sets P7.out HW4.out _ 0) (by have := HW4.out; omega)
            · intro k hk; exact (own_block (own_sets O7.out HW4.out _ 0) k hk).2
            · intro k hk; exact (own_block (own_sets P7.out HW4.out _ 0) k hk).2
            · exact TYP.out

end Go.Proofs.YtedcfmdgcafnmaaDoor
