/-
  DepthOf of the program and of the model.
-/
import Derived.Test.YtngaelifkhelbaaDoorCj
import Derived.Test.YtngaelifkhelbaaDoorCi
namespace Go.Proofs.YtngaelifkhelbaaDoor
set_option linter.unusedVariables false
set_option linter.unusedSimpArgs false
open Go.ChangeShapes Go.WideShapes Go.ChangeAt Go.RowKit Go.Deep

theorem bdw {B : Nat} {a b : World} (h : Below B a b) : Below B a b.drew := ⟨h.os, h.tape, h.output, h.size, h.block⟩
theorem odw {b : World} {B s n : Nat} {e : TypeId} {u : Value} {cs : List Value} (h : b.ownsRow B e s u n cs) : b.drew.ownsRow B e s u n cs := h
def joinB (g : G3) : Bool := decide (g.1 = 2) || decide (g.1 = 3)
def dep1 (l : List Int) (g : G3) : Int := if joinB g then max (l.getD g.2.1.toNat 0) (l.getD g.2.2.toNat 0) + 1 else 0
abbrev i64s (l : List Int) : List Value := l.map (Value.int .i64)
theorem dep_small (gs : List G3) : ∀ k, k ≤ gs.length → ∀ z, 0 ≤ (bl dep1 gs k).getD z 0 ∧ (bl dep1 gs k).getD z 0 ≤ k
  | 0, _, z => by simp [bl_zero]
  | k + 1, h, z => by
    have ih := dep_small gs k (by omega)
    rw [bl_succ dep1 gs k h]
    by_cases hz : z < k
    · have e : (bl dep1 gs k ++ [dep1 (bl dep1 gs k) (gs.getD k gz)]).getD z 0 = (bl dep1 gs k).getD z 0 := by
        simp only [List.getD]; rw [List.getElem?_append_left (by rw [bl_len dep1 gs k (by omega)]; exact hz)]
      rw [e]
      have := ih z
      omega
    · by_cases hz2 : z = k
      · subst hz2
        have e : (bl dep1 gs z ++ [dep1 (bl dep1 gs z) (gs.getD z gz)]).getD z 0 = dep1 (bl dep1 gs z) (gs.getD z gz) := by
          simp only [List.getD]; rw [List.getElem?_append_right (by rw [bl_len dep1 gs z (by omega)]; omega), bl_len dep1 gs z (by omega), Nat.sub_self]; rfl
        rw [e]
        unfold dep1
        have a1 := ih (gs.getD z gz).2.1.toNat
        have a2 := ih (gs.getD z gz).2.2.toNat
        split
        · unfold dep1 at a1 a2; omega
        · omega
      · have e : (bl dep1 gs k ++ [dep1 (bl dep1 gs k) (gs.getD k gz)]).getD z 0 = 0 := by
          simp only [List.getD]; rw [List.getElem?_eq_none (by rw [List.length_append, bl_len dep1 gs k (by omega)]; simp; omega)]; rfl
        rw [e]
        omega

theorem isJoin_any (g : G3) (w : World) :
    Calls Tryd.prog 99 #[gv g] w fun e w' => e = .returned (.bool (joinB g)) ∧ Below w.heap.size w w' := by
  obtain ⟨k, a, b⟩ := g
  have HB := Lib.hid (nw1 w (.cells #[.int .i8 k, .int .i16 a, .int .i16 b] 88)).2.1
  by_cases k2 : k = 2
  · subst k2
    have T2 : ((2 : Int) == 2) = true := rfl
    go_enter Tryd.func99, Tryd.ntmps99
    go_wp2_with fail
    go_ret
    exact ⟨rfl, HB.out⟩
  have T2 : (k == 2) = false := by simpa using k2
  by_cases k3 : k = 3
  · subst k3
    have T3 : ((3 : Int) == 3) = true := rfl
    go_enter Tryd.func99, Tryd.ntmps99
    go_wp2_with fail
    go_ret
    exact ⟨rfl, HB.out⟩
  have T3 : (k == 3) = false := by simpa using k3
  go_enter Tryd.func99, Tryd.ntmps99
  go_wp2_with fail
  go_ret
  exact ⟨by simp [joinB, k2, k3], HB.out⟩
theorem l07Joins_any (g : G3) (w : World) :
    Calls Tryd.prog 67 #[gv g] w fun e w' => e = .returned (.bool (joinB g)) ∧ Below w.heap.size w w' := by
  obtain ⟨k, a, b⟩ := g
  have HB := Lib.hid (nw1 w (.cells #[.int .i8 k, .int .i16 a, .int .i16 b] 88)).2.1
  by_cases k2 : k = 2
  · subst k2
    have T2 : ((2 : Int) == 2) = true := rfl
    go_enter Tryd.func67, Tryd.ntmps67
    go_wp2_with fail
    go_ret
    exact ⟨rfl, HB.out⟩
  have T2 : (k == 2) = false := by simpa using k2
  by_cases k3 : k = 3
  · subst k3
    have T3 : ((3 : Int) == 3) = true := rfl
    go_enter Tryd.func67, Tryd.ntmps67
    go_wp2_with fail
    go_ret
    exact ⟨rfl, HB.out⟩
  have T3 : (k == 3) = false := by simpa using k3
  go_enter Tryd.func67, Tryd.ntmps67
  go_wp2_with fail
  go_ret
  exact ⟨by simp [joinB, k2, k3], HB.out⟩
theorem max_any (a b : Int) (w : World) :
    Calls Tryd.prog 68 #[.int .i64 a, .int .i64 b] w fun e w' => e = .returned (.int .i64 (max a b)) ∧ w' = w := by
  by_cases h : b < a
  · have T : decide (b < a) = true := by simpa using h
    go_enter Tryd.func68, Tryd.ntmps68
    go_wp2_with fail
    go_ret
    exact ⟨by rw [Int.max_eq_left (by omega)]; rfl, rfl⟩
  · have T : decide (b < a) = false := by simpa using h
    go_enter Tryd.func68, Tryd.ntmps68
    go_wp2_with fail
    go_ret
    exact ⟨by rw [Int.max_eq_right (by omega)]; rfl, rfl⟩
theorem infoI64 : (Tryd.prog.info? 2).map (fun i => (i.zero, i.size, i.bytes)) = some (some (.int .i64 0), 1, 8) := by kernel_rfl
set_option maxRecDepth 100000 in
set_option maxHeartbeats 4000000 in
theorem implDepths_any (n : Int) (G : Value) (gs : List G3) (hl : gs.length ≤ 600) (hv : ∀ k : Nat, k < gs.length → gateB n k (gs.getD k gz) = true) (w : World) (hg : GL w G gs) :
    Calls Tryd.prog 69 #[G] w fun e w' => ∃ u, e = .returned u ∧ Below w.heap.size w w' ∧ w'.ownsRow w.heap.size 2 1 u gs.length (i64s (bl dep1 gs gs.length)) := by
  have H := Lib.hid hg
  obtain ⟨A, c, rfl⟩ := hg.form
  have HV := Lib.hid hv
  clear hg hv
  obtain ⟨i0, hi, hz0, hz1, hz2⟩ := info_parts infoI64
  go_enter Tryd.func69, Tryd.ntmps69
  go_wp2_with (at_make; refine wpList_make_full _ rfl _ _ 50 rfl w.heap.size 2 i0 (.int .i64 0) 1 Tryd.underlying50 hi hz0 hz1 _ _ _ _ gs.length rfl rfl rfl rfl (by rw [hz2]; omega) (by unfold maxLen; omega) (Nat.le_refl _) ?_)
  intro w1 hown hgrow
  have hb1 : Below w.heap.size w w1 := (Below.refl _ w).grown hgrow (Nat.le_refl _) (fun k hk => by cases hk)
  obtain ⟨g, hgs⟩ : ∃ g, g = w.heap.size := ⟨_, rfl⟩
  rw [← hgs] at hown hb1 ⊢
  have hown1 : w1.ownsRow g 2 1 (.slice (some ⟨g, 0, none⟩) gs.length gs.length) gs.length (i64s (rowb dep1 0 gs 0)) := by
    have e : (madeCells #[Value.int .i64 0] gs.length).toList = i64s (rowb dep1 0 gs 0) := by
      rw [toList_madeCells_one, rowb_zero]; simp
    rw [← e]; simpa using hown
  clear hown hgrow
  have HGS := Lib.hid hgs; clear hgs
  have HB1 := Lib.hid hb1; have HO1 := Lib.hid hown1
  clear hb1 hown1
  go_wp2_with fail
  go_loopw [11] (fun y wr => ∃ k : Nat, y = .int .i64 (k : Int) ∧ k ≤ gs.length ∧ Hid (Below g w wr) ∧ Hid (wr.ownsRow g 2 1 (.slice (some ⟨g, 0, none⟩) gs.length gs.length) gs.length (i64s (rowb dep1 0 gs k)))) (fun y _ => gs.length - (intOf y).toNat)
  case atStart => exact ⟨0, rfl, Nat.zero_le _, HB1, HO1⟩
  case round =>
    obtain ⟨k, rfl, hk, HB, HO⟩ := hrel
    clear HB1 HO1
    by_cases hlt : k < gs.length
    · obtain ⟨b, off, c', e, hlb, hgw, d0, d1, d2⟩ := (H.out.below (by rw [← HGS.out]; exact HB.out)).at k hlt
      cases e
      have hgt := HV.out k hlt
      obtain ⟨x, hx⟩ : ∃ x, x = gs.getD k gz := ⟨_, rfl⟩
      rw [← hx] at d0 d1 d2 hgw hgt
      obtain ⟨kd, a, bb⟩ := x
      simp only at d0 d1 d2
      have T1 : decide ((k : Int) < (gs.length : Int)) = true := by simp; omega
      have i1 : (k : Int) < (gs.length : Int) := by omega
      have HSZ := Lib.hid (ownblk HO.out)
      go_upto_region 5 with fail
      obtain ⟨e0, hba, sba⟩ := nw1 wr (.cells #[.int .i8 kd, .int .i16 a, .int .i16 bb] 88)
      generalize wr.alloc (.cells #[.int .i8 kd, .int .i16 a, .int .i16 bb] 88) = wa at e0 hba sba ⊢
      have mg : BX wa wr.heap.size (.int .i8 kd) (.int .i16 a) (.int .i16 bb) := ⟨_, e0⟩
      have g0 := mg.c0; have g1 := mg.c1; have g2 := mg.c2
      have MG := Lib.hid mg
      have HBA := Lib.hid hba
      clear e0 mg hba sba d0 d1 d2
      go_wp2_with fail
      refine (isJoin_any (kd, a, bb) wa).mono ?_
      rintro e wb ⟨rfl, hbb⟩
      have mg := MG.out.below hbb
      have f1 := mg.c1; have f2 := mg.c2
      have HBB := Lib.hid (HBA.out.trans (hbb.mono HBA.out.size))
      have HOB := Lib.hid (owb HO.out HBB.out)
      have HBT := Lib.hid (HB.out.trans (HBB.out.mono (Nat.le_of_lt HSZ.out)))
      clear hbb g0 g1 g2 HBA MG mg
      obtain ⟨nv, hnv⟩ : ∃ nv, nv = dep1 (bl dep1 gs k) (kd, a, bb) := ⟨_, rfl⟩
      have e4 : (i64s (rowb dep1 0 gs k)).set k (.int .i64 nv) = i64s (rowb dep1 0 gs (k + 1)) := by rw [← List.map_set, hnv, hx, rowb_set _ _ gs k hlt]
      have E4 := Lib.hid e4
      have HNV := Lib.hid hnv
      have HXX := Lib.hid hx
      clear e4 hnv hx
      cases hj : joinB (kd, a, bb) with
      | false =>
        have hz : nv = 0 := by rw [HNV.out]; unfold dep1; rw [hj]; rfl
        have e5 : rowb dep1 0 gs (k + 1) = rowb dep1 0 gs k := by
          have h1 := rowb_set dep1 0 gs k hlt
          rw [← h1, ← HXX.out, ← HNV.out, hz]
          apply List.ext_getElem?
          intro q
          rw [List.getElem?_set]
          by_cases hq : k = q
          · subst hq
            rw [if_pos rfl, if_pos (by rw [rowb_len _ _ _ _ hk]; exact hlt)]
            unfold rowb
            rw [List.getElem?_append_right (by rw [bl_len _ _ _ hk]; omega), bl_len _ _ _ hk, Nat.sub_self, List.getElem?_replicate, if_pos (by omega)]
          · rw [if_neg hq]
        have E5 := Lib.hid e5
        clear e5 hz hj
        go_wp2_with fail
        exact ⟨⟨k + 1, by go_num, by omega, HBT, by rw [E5.out]; exact HOB⟩, by simp [intOf]; omega⟩
      | true =>
        have hnv2 : nv = max ((bl dep1 gs k).getD a.toNat 0) ((bl dep1 gs k).getD bb.toNat 0) + 1 := by rw [HNV.out]; unfold dep1; rw [hj]; rfl
        have hjj : (kd = 2 ∨ kd = 3) ∧ 0 ≤ a ∧ a < k ∧ 0 ≤ bb ∧ bb < k := by
          rcases kinds_of hgt with ⟨h0, _⟩ | ⟨h0, _⟩ | h3
          · simp only at h0; subst h0; simp [joinB] at hj
          · simp only at h0; subst h0; simp [joinB] at hj
          · exact h3
        obtain ⟨_, ha0, ha1, hb0, hb1⟩ := hjj
        obtain ⟨an, rfl⟩ : ∃ an : Nat, a = (an : Int) := ⟨a.toNat, by omega⟩
        obtain ⟨bn, rfl⟩ : ∃ bn : Nat, bb = (bn : Int) := ⟨bb.toNat, by omega⟩
        have sa := dep_small gs k hk an
        have sb := dep_small gs k hk bn
        have va : wb.cell? ⟨g, an, none⟩ = some (.int .i64 ((bl dep1 gs k).getD an 0)) := by
          rw [HOB.out.cellAt an (by omega), List.getElem?_map, rowb_at _ _ gs k an hk (by omega)]; rfl
        have vb : wb.cell? ⟨g, bn, none⟩ = some (.int .i64 ((bl dep1 gs k).getD bn 0)) := by
          rw [HOB.out.cellAt bn (by omega), List.getElem?_map, rowb_at _ _ gs k bn hk (by omega)]; rfl
        obtain ⟨y0, hy0⟩ : ∃ y, (i64s (rowb dep1 0 gs k))[k]? = some y := ⟨_, List.getElem?_eq_getElem (by rw [List.length_map, rowb_len _ _ _ _ hk]; exact hlt)⟩
        have q2 : wb.cell? ⟨g, k, none⟩ = some y0 := (HOB.out.cellAt k (by omega)).trans hy0
        have q3 : wb.frozen? ⟨g, k, none⟩ = false := HOB.out.frozenAt k
        obtain ⟨p1, hp1⟩ : ∃ p1, p1 = (bl dep1 gs k).getD an 0 := ⟨_, rfl⟩
        obtain ⟨p2, hp2⟩ : ∃ p2, p2 = (bl dep1 gs k).getD bn 0 := ⟨_, rfl⟩
        rw [show ((an : Int)).toNat = an from rfl, show ((bn : Int)).toNat = bn from rfl] at hnv2
        rw [← hp1] at va sa hnv2
        rw [← hp2] at vb sb hnv2
        have h4 := (HOB.out.stored k (.int .i64 nv)).1
        rw [E4.out] at h4
        have H4 := Lib.hid h4
        have H5 := Lib.hid (HBT.out.setCell (p := ⟨g, k, none⟩) (Nat.le_refl _) (.int .i64 nv))
        have HN2 := Lib.hid hnv2
        have ai : (an : Int) < (gs.length : Int) := by omega
        have bi : (bn : Int) < (gs.length : Int) := by omega
        clear h4 hp1 hp2 hy0 hnv2 hj hgt
        go_upto_region 6 with fail
        refine wp_region_still_tail 14 (by kernel_rfl) (by kernel_rfl) ?_
        simp only [List.take_succ_cons, List.take_zero, List.drop_succ_cons, List.drop_zero]
        iterate 12 still_step
        still_step
        still_step
        refine wpStill_nil ?_
        change wpList _ _ _ _ _ wb.drew
        have q2' : wb.drew.cell? ⟨g, k, none⟩ = some y0 := q2
        have q3' : wb.drew.frozen? ⟨g, k, none⟩ = false := q3
        go_wp2_with fail
        have hmx : (if p1 < p2 then p2 else p1) + 1 = nv := by rw [HN2.out]; split <;> omega
        rw [hmx]
        exact ⟨⟨k + 1, by go_num, by omega, Lib.hid (bdw H5.out), Lib.hid (odw H4.out)⟩, by simp [intOf]; omega⟩
    · obtain rfl : k = gs.length := by omega
      have T1 : decide ((gs.length : Int) < (gs.length : Int)) = false := by simp
      go_wp2_with fail
      go_ret
      have h := HO.out
      rw [rowb_end] at h
      exact ⟨_, rfl, by rw [← HGS.out]; exact HB.out, by rw [← HGS.out]; exact h⟩


/-- the greatest depth of the first k outputs -/
def depTo (ds : List Int) (os : List Int) : Nat → Int
  | 0 => 0
  | k + 1 => max (depTo ds os k) (ds.getD (os.getD k 0).toNat 0)
def depV (n : Int) (gs : List G3) (os : List Int) : Int := if circB n gs os then depTo (bl dep1 gs gs.length) os os.length else 0

set_option maxRecDepth 100000 in
set_option maxHeartbeats 4000000 in
theorem impl_DepthOf (v : Value) (n : Int) (gs : List G3) (os : List Int) (w : World) (h : CI w v n gs os) (hE : ET w) :
    Calls Tryd.prog 30 #[v] w fun e w' => e = .returned (.tuple #[.int .i64 (depV n gs os), .int .i64 (okC n gs os)]) ∧ Below w.heap.size w w' := by
  have H := Lib.hid h
  have HE := Lib.hid hE
  obtain ⟨G, O, rfl, hn, hg, ho⟩ := h
  have HG := Lib.hid hg; have HO := Lib.hid ho
  obtain ⟨A, c, rfl⟩ := hg.form
  obtain ⟨A2, c2, rfl⟩ := ho.form
  clear hg ho hE
  go_enter Tryd.func30, Tryd.ntmps30
  go_wp2_with fail
  obtain ⟨a1, hb1, s1⟩ := nw1 w (.cells #[.int .i8 n, .slice A gs.length c, .slice A2 os.length c2] 33)
  generalize World.alloc w _ = w1 at a1 hb1 s1 ⊢
  refine (openCircuit_any n _ _ gs os w1 (H.out.below hb1)).mono ?_
  rintro e w2 ⟨rfl, hb⟩
  have HB := Lib.hid (bch2 hb1 hb hb1.size)
  clear hb hb1 a1 s1
  cases hc : circB n gs os with
  | false =>
    have HC := Lib.hid hc
    clear hc
    simp only [opW, Bool.false_eq_true, if_false]
    have HB4 := Lib.hid (HB.out.trans ((nw1 w2 (.cells #[.slice none 0 0, .int .i8 0, .slice none 0 0] 74)).2.1.mono HB.out.size))
    go_wp2_with fail
    refine (reasonOf_bad 1 _ (HE.out.below HB4.out)).mono ?_
    rintro e w3 ⟨rfl, hb3⟩
    have HB3 := Lib.hid (HB4.out.trans (hb3.mono HB4.out.size))
    clear hb3
    go_wp2_with fail
    go_ret2
    exact ⟨by unfold depV okC; rw [HC.out]; rfl, HB3.out⟩
  | true =>
  have HCC := Lib.hid hc
  have hh := head_of hc
  have HV := Lib.hid (gate_of hc)
  have HU := Lib.hid (out_of hc)
  clear hc
  simp only [opW, if_true]
  go_wp2_with fail
  obtain ⟨a1, hb1, s1⟩ := nw1 w2 (.cells #[.slice A gs.length c, .int .i8 n, .slice A2 os.length c2] 74)
  generalize World.alloc w2 _ = wz at a1 hb1 s1 ⊢
  have HBZ := Lib.hid (HB.out.trans (hb1.mono HB.out.size))
  have mz : Hid (BX wz w2.heap.size (.slice A gs.length c) (.int .i8 n) (.slice A2 os.length c2)) := Lib.hid ⟨_, a1⟩
  clear a1 hb1 s1
  refine (implDepths_any n _ gs hh.2.2.1 HV.out wz (HG.out.below HBZ.out)).mono ?_
  rintro e w5 ⟨U, rfl, hb2, ho2⟩
  obtain ⟨AU, cU, rfl, _, hAU⟩ := own_formc ho2
  have m1 := mz.out.below hb2
  have k2 := m1.c2
  have HB2 := Lib.hid (HBZ.out.trans (hb2.mono HBZ.out.size))
  have HAT := Lib.hid (fun (z : Nat) (hz : z < gs.length) (g : Nat) (e : AU = some ⟨g, 0, none⟩) => show w5.cell? ⟨g, z, none⟩ = some (.int .i64 ((bl dep1 gs gs.length).getD z 0)) from by
    subst e
    rw [ho2.cellAt z (by omega), List.getElem?_map, List.getD, List.getElem?_eq_getElem (by rw [bl_len _ _ _ (Nat.le_refl _)]; exact hz)]; rfl)
  have HAU := Lib.hid hAU
  clear hb2 ho2 m1 hAU
  obtain ⟨vs, hvs⟩ : ∃ vs, vs = bl dep1 gs gs.length := ⟨_, rfl⟩
  rw [← hvs] at HAT
  have HVS := Lib.hid hvs
  clear hvs
  go_wp2_with fail
  go_loopw [25, 7] (fun y acc wr => ∃ k : Nat, y = .int .i64 (k : Int) ∧ k ≤ os.length ∧ acc = .int .i64 (depTo vs os k) ∧ wr = w5) (fun y _ _ => os.length - (intOf y).toNat)
  case atStart => exact ⟨0, rfl, Nat.zero_le _, rfl, rfl⟩
  case round =>
    obtain ⟨k, rfl, hk, rfl, rfl⟩ := hrel
    by_cases hlt : k < os.length
    · obtain ⟨b, off, c', e, hlb, hiw, d0⟩ := (HO.out.below HB2.out).at k hlt
      cases e
      have hu := HU.out k hlt
      obtain ⟨x, hx⟩ : ∃ x, x = os.getD k 0 := ⟨_, rfl⟩
      rw [← hx] at d0 hu
      obtain ⟨xn, rfl⟩ : ∃ xn : Nat, x = (xn : Int) := ⟨x.toNat, by omega⟩
      obtain ⟨go, rfl, _, _⟩ := HAU.out (by omega)
      have va := HAT.out xn (by omega) go rfl
      have T1 : decide ((k : Int) < (os.length : Int)) = true := by simp; omega
      have i1 : (k : Int) < (os.length : Int) := by omega
      have i2 : (xn : Int) < (gs.length : Int) := by omega
      have HR := Lib.hid (show depTo vs os (k + 1) = max (depTo vs os k) (vs.getD xn 0) from by rw [depTo, ← hx]; rfl)
      obtain ⟨p1, hp1⟩ : ∃ p1, p1 = vs.getD xn 0 := ⟨_, rfl⟩
      rw [← hp1] at va HR
      obtain ⟨ac, hac⟩ : ∃ ac, ac = depTo vs os k := ⟨_, rfl⟩
      rw [← hac] at HR ⊢
      clear hp1 hx hac
      go_wp2_with fail
      have hmx : (if ac < p1 then p1 else ac) = depTo vs os (k + 1) := by rw [HR.out]; split <;> omega
      rw [hmx]
      exact ⟨⟨k + 1, by go_num, by omega, rfl, by simp⟩, by simp [intOf]; omega⟩
    · obtain rfl : k = os.length := by omega
      have T1 : decide ((os.length : Int) < (os.length : Int)) = false := by simp
      go_wp2_with fail
      go_ret2
      exact ⟨by unfold depV okC; rw [HCC.out, if_pos rfl, if_pos rfl, ← HVS.out]; rfl, HB2.out⟩
set_option maxRecDepth 100000 in
set_option maxHeartbeats 4000000 in
theorem spec_DepthOf (v : Value) (n : Int) (gs : List G3) (os : List Int) (w0 : World) (h : CI w0 v n gs os) :
    Calls Tryd.prog 29 #[v] w0 fun e w' => e = .returned (.tuple #[.int .i64 (depV n gs os), .int .i64 (okC n gs os)]) ∧ Below w0.heap.size w0 w' := by
  obtain ⟨G, O, rfl, hn, hg, ho⟩ := h
  have HG0 := Lib.hid hg; have HO0 := Lib.hid ho
  obtain ⟨A, c, rfl⟩ := hg.form
  obtain ⟨A2, c2, rfl⟩ := ho.form
  clear hg ho
  obtain ⟨i0, hi, hz0, hz1, hz2⟩ := info_parts infoI64
  go_enter Tryd.func29, Tryd.ntmps29
  go_wp2_with fail
  obtain ⟨a1, hb1, s1⟩ := nw1 w0 (.cells #[.int .i8 n, .slice A gs.length c, .slice A2 os.length c2] 33)
  generalize World.alloc w0 _ = w1 at a1 hb1 s1 ⊢
  refine (l07Ok_any w0.heap.size n _ _ gs os w1 ⟨_, a1⟩ hn (HG0.out.below hb1) (HO0.out.below hb1)).mono ?_
  rintro e w ⟨rfl, hb⟩
  have HX : Hid (BX w w0.heap.size (.int .i8 n) (.slice A gs.length c) (.slice A2 os.length c2)) := Lib.hid (BX.belowB ⟨_, a1⟩ hb (by omega))
  have HB9 := Lib.hid (bch2 hb1 hb hb1.size)
  have H := Lib.hid (HG0.out.below HB9.out)
  have HO := Lib.hid (HO0.out.below HB9.out)
  clear hb hb1 a1 s1 HG0 HO0
  cases hc : circB n gs os with
  | false =>
    have HC := Lib.hid hc
    clear hc
    go_wp2_with fail
    go_ret2
    exact ⟨by unfold depV okC; rw [HC.out]; rfl, HB9.out⟩
  | true =>
  have HCC := Lib.hid hc
  have hh := head_of hc
  have HV := Lib.hid (gate_of hc)
  have HU := Lib.hid (out_of hc)
  clear hc
  have hl := hh.2.2.1
  go_wp2_with fail
  have m1 : (w.alloc (.cells #[] 2)).ownsRow w.heap.size 2 1 (.slice (some ⟨w.heap.size, 0, none⟩) 0 0) 0 (i64s (bl dep1 gs 0)) := World.ownsRow_made _ #[] 0 (by omega) (Nat.zero_le _) rfl
  have m2 : Below w.heap.size w (w.alloc (.cells #[] 2)) := (nw1 w _).2.1
  have HB0 := Lib.hid m2; have HO0 := Lib.hid m1
  clear m1 m2
  generalize w.alloc (.cells #[] 2) = w1 at HB0 HO0 ⊢
  go_loopw [5, 4] (fun y ov wr => ∃ k : Nat, y = .int .i64 (k : Int) ∧ k ≤ gs.length ∧ Hid (wr.ownsRow w.heap.size 2 1 ov k (i64s (bl dep1 gs k))) ∧ Hid (Below w.heap.size w wr)) (fun y _ _ => gs.length - (intOf y).toNat)
  case atStart => exact ⟨0, rfl, Nat.zero_le _, HO0, HB0⟩
  case round =>
    obtain ⟨k, rfl, hk, HR, HB⟩ := hrel
    clear HB0 HO0
    have mX := HX.out.below HB.out
    have x1 := mX.c1
    have MX := Lib.hid mX
    clear mX
    by_cases hlt : k < gs.length
    · obtain ⟨b, off, c', e, hlb, hgw, d0, d1, d2⟩ := (H.out.below HB.out).at k hlt
      cases e
      have hgt := HV.out k hlt
      obtain ⟨x, hx⟩ : ∃ x, x = gs.getD k gz := ⟨_, rfl⟩
      rw [← hx] at d0 d1 d2 hgw hgt
      obtain ⟨kd, a, bb⟩ := x
      simp only at d0 d1 d2
      have T1 : decide ((k : Int) < (gs.length : Int)) = true := by simp; omega
      have i1 : (k : Int) < (gs.length : Int) := by omega
      obtain ⟨AO, cO, rfl, _, hAO⟩ := own_formc HR.out
      have HAO := Lib.hid hAO
      clear hAO
      go_upto_region 8 with fail
      obtain ⟨e0, hba, sba⟩ := nw1 wr (.cells #[.int .i8 kd, .int .i16 a, .int .i16 bb] 88)
      generalize wr.alloc (.cells #[.int .i8 kd, .int .i16 a, .int .i16 bb] 88) = wq at e0 hba sba ⊢
      have mg : BX wq wr.heap.size (.int .i8 kd) (.int .i16 a) (.int .i16 bb) := ⟨_, e0⟩
      have g0 := mg.c0; have g1 := mg.c1; have g2 := mg.c2
      have MG := Lib.hid mg
      have HBQ := Lib.hid hba
      clear e0 mg hba sba d0 d1 d2
      go_wp2_with fail
      refine (l07Joins_any (kd, a, bb) wq).mono ?_
      rintro e wa ⟨rfl, hbb⟩
      have mg := MG.out.below hbb
      have f1 := mg.c1; have f2 := mg.c2
      have HBR := Lib.hid (HBQ.out.trans (hbb.mono HBQ.out.size))
      have HOA := Lib.hid (owb HR.out HBR.out)
      have HBA := Lib.hid (HB.out.trans (HBR.out.mono HB.out.size))
      clear hbb g0 g1 g2 HBQ MG mg HB HR
      obtain ⟨nv, hnv⟩ : ∃ nv, nv = dep1 (bl dep1 gs k) (kd, a, bb) := ⟨_, rfl⟩
      have HSN := Lib.hid (show i64s (bl dep1 gs k) ++ [Value.int .i64 nv] = i64s (bl dep1 gs (k + 1)) from by rw [bl_succ _ _ _ hlt, ← hx, ← hnv]; simp)
      have HNV := Lib.hid hnv
      clear hnv hx
      cases hj : joinB (kd, a, bb) with
      | false =>
        have hz : nv = 0 := by rw [HNV.out]; unfold dep1; rw [hj]; rfl
        subst hz
        clear hj
        go_wp2_with (at_builtin; refine wpList_append_own _ rfl _ _ 50 rfl w.heap.size 2 i0 (.int .i64 0) 1 8 Tryd.underlying50 hi hz0 hz1 hz2 rfl (by decide) _ k _ rfl (HOA.out.alloc _) ⟨wa.heap.size, 0, none⟩ 1 1 [.int .i64 0] rfl rfl ?b1 ?b2 ?b3 ?b4 ?b5 ?_)
        try case b1 => exact one_cellC _ _ _
        try case b2 => simp [Value.oneCell']
        try case b3 => (unfold maxLen; omega)
        try case b4 => omega
        try case b5 => (have := HBA.out.size; first | omega | (rw [World.size_alloc]; omega))
        intro s' wy hown hgrow _
        rw [HSN.out] at hown
        have HB2 := Lib.hid ((HBA.out.alloc HBA.out.size _).grown hgrow (by rw [World.size_alloc]; have := HBA.out.size; omega) (fun x hx => (HOA.out.lt x hx).1))
        have HO2 := Lib.hid hown
        clear hown hgrow
        go_wp2_with fail
        exact ⟨⟨k + 1, by go_num, by omega, HO2, HB2⟩, by simp [intOf]; omega⟩
      | true =>
        have hnv2 : nv = max ((bl dep1 gs k).getD a.toNat 0) ((bl dep1 gs k).getD bb.toNat 0) + 1 := by rw [HNV.out]; unfold dep1; rw [hj]; rfl
        have hjj : (kd = 2 ∨ kd = 3) ∧ 0 ≤ a ∧ a < k ∧ 0 ≤ bb ∧ bb < k := by
          rcases kinds_of hgt with ⟨h0, _⟩ | ⟨h0, _⟩ | h3
          · simp only at h0; subst h0; simp [joinB] at hj
          · simp only at h0; subst h0; simp [joinB] at hj
          · exact h3
        obtain ⟨_, ha0, ha1, hb0, hb1⟩ := hjj
        obtain ⟨an, rfl⟩ : ∃ an : Nat, a = (an : Int) := ⟨a.toNat, by omega⟩
        obtain ⟨bn, rfl⟩ : ∃ bn : Nat, bb = (bn : Int) := ⟨bb.toNat, by omega⟩
        obtain ⟨go, rfl, _, _⟩ := HAO.out (by omega)
        have sa := dep_small gs k hk an
        have sb := dep_small gs k hk bn
        have at' : ∀ z : Nat, z < k → wa.cell? ⟨go, z, none⟩ = some (.int .i64 ((bl dep1 gs k).getD z 0)) := fun z hz => by
          rw [HOA.out.cellAt z (by omega), List.getElem?_map, List.getD, List.getElem?_eq_getElem (by rw [bl_len _ _ _ hk]; exact hz)]; rfl
        have va := at' an (by omega)
        have vb := at' bn (by omega)
        clear at'
        obtain ⟨p1, hp1⟩ : ∃ p1, p1 = (bl dep1 gs k).getD an 0 := ⟨_, rfl⟩
        obtain ⟨p2, hp2⟩ : ∃ p2, p2 = (bl dep1 gs k).getD bn 0 := ⟨_, rfl⟩
        rw [show ((an : Int)).toNat = an from rfl, show ((bn : Int)).toNat = bn from rfl] at hnv2
        rw [← hp1] at va sa hnv2
        rw [← hp2] at vb sb hnv2
        have HN2 := Lib.hid hnv2
        have ai : (an : Int) < (k : Int) := by omega
        have bi : (bn : Int) < (k : Int) := by omega
        have W1 : wrap64 (1 + max p1 p2) = nv := by rw [hnv2, IntWalk.wrap64_in _ (by omega)]; omega
        clear hp1 hp2 hnv2 hj hgt
        go_upto_region 10 with fail
        refine wp_region_still_tail 10 (by kernel_rfl) (by kernel_rfl) ?_
        simp only [List.take_succ_cons, List.take_zero, List.drop_succ_cons, List.drop_zero]
        iterate 10 still_step
        refine wpStill_nil ?_
        change wpList _ _ _ _ _ wa.drew
        have HOD := Lib.hid (odw HOA.out)
        have HBD := Lib.hid (bdw HBA.out)
        clear HOA HBA va vb f1 f2
        go_wp2_with fail
        refine (max_any p1 p2 _).mono ?_
        rintro e wm ⟨rfl, hw⟩
        rw [hw]; clear hw wm
        generalize wa.drew = wb at HOD HBD ⊢
        go_upto_region 11 with fail
        rw [show 1 + max p1 p2 = nv from by rw [HN2.out]; omega]
        go_wp2_with (at_builtin; refine wpList_append_own _ rfl _ _ 50 rfl w.heap.size 2 i0 (.int .i64 0) 1 8 Tryd.underlying50 hi hz0 hz1 hz2 rfl (by decide) _ k _ rfl (HOD.out.alloc _) ⟨wb.heap.size, 0, none⟩ 1 1 [.int .i64 nv] rfl rfl ?c1 ?c2 ?c3 ?c4 ?c5 ?_)
        try case c1 => exact one_cellC _ _ _
        try case c2 => simp [Value.oneCell']
        try case c3 => (unfold maxLen; omega)
        try case c4 => omega
        try case c5 => (have := HBD.out.size; first | omega | (rw [World.size_alloc]; omega))
        intro s' wy hown hgrow _
        rw [HSN.out] at hown
        have HB2 := Lib.hid ((HBD.out.alloc HBD.out.size _).grown hgrow (by rw [World.size_alloc]; have := HBD.out.size; omega) (fun x hx => (HOD.out.lt x hx).1))
        have HO2 := Lib.hid hown
        clear hown hgrow
        go_wp2_with fail
        exact ⟨⟨k + 1, by go_num, by omega, HO2, HB2⟩, by simp [intOf]; omega⟩
    · obtain rfl : k = gs.length := by omega
      have T1 : decide ((gs.length : Int) < (gs.length : Int)) = false := by simp
      obtain ⟨AU, cU, rfl, _, hAU⟩ := own_formc HR.out
      have HAT := Lib.hid (fun (z : Nat) (hz : z < gs.length) (g : Nat) (e : AU = some ⟨g, 0, none⟩) => show wr.cell? ⟨g, z, none⟩ = some (.int .i64 ((bl dep1 gs gs.length).getD z 0)) from by
        subst e
        rw [HR.out.cellAt z (by omega), List.getElem?_map, List.getD, List.getElem?_eq_getElem (by rw [bl_len _ _ _ (Nat.le_refl _)]; exact hz)]; rfl)
      have HAU := Lib.hid hAU
      have HB2 := Lib.hid HB.out
      have k2 := MX.out.c2
      clear hAU HR
      obtain ⟨vs, hvs⟩ : ∃ vs, vs = bl dep1 gs gs.length := ⟨_, rfl⟩
      rw [← hvs] at HAT
      have HVS := Lib.hid hvs
      clear hvs
      go_wp2_with fail
      go_loopw [9, 8] (fun y acc wz => ∃ k : Nat, y = .int .i64 (k : Int) ∧ k ≤ os.length ∧ acc = .int .i64 (depTo vs os k) ∧ wz = wr) (fun y _ _ => os.length - (intOf y).toNat)
      case atStart => exact ⟨0, rfl, Nat.zero_le _, rfl, rfl⟩
      case round =>
        obtain ⟨k, rfl, hk, rfl, hwz⟩ := hrel
        rw [hwz]; clear hwz
        by_cases hlt : k < os.length
        · obtain ⟨b, off, c', e, hlb, hiw, d0⟩ := (HO.out.below HB2.out).at k hlt
          cases e
          have hu := HU.out k hlt
          obtain ⟨x, hx⟩ : ∃ x, x = os.getD k 0 := ⟨_, rfl⟩
          rw [← hx] at d0 hu
          obtain ⟨xn, rfl⟩ : ∃ xn : Nat, x = (xn : Int) := ⟨x.toNat, by omega⟩
          obtain ⟨go, rfl, _, _⟩ := HAU.out (by omega)
          have va := HAT.out xn (by omega) go rfl
          have T1 : decide ((k : Int) < (os.length : Int)) = true := by simp; omega
          have i1 : (k : Int) < (os.length : Int) := by omega
          have i2 : (xn : Int) < (gs.length : Int) := by omega
          have HR := Lib.hid (show depTo vs os (k + 1) = max (depTo vs os k) (vs.getD xn 0) from by rw [depTo, ← hx]; rfl)
          obtain ⟨p1, hp1⟩ : ∃ p1, p1 = vs.getD xn 0 := ⟨_, rfl⟩
          rw [← hp1] at va HR
          obtain ⟨ac, hac⟩ : ∃ ac, ac = depTo vs os k := ⟨_, rfl⟩
          rw [← hac] at HR ⊢
          clear hp1 hx hac
          go_wp2_with fail
          refine (max_any ac p1 _).mono ?_
          rintro e wm ⟨rfl, hw⟩
          rw [hw]; clear hw wm
          go_wp2_with fail
          exact ⟨⟨k + 1, by go_num, by omega, by rw [HR.out], by first | rfl | simp⟩, by simp [intOf]; omega⟩
        · obtain rfl : k = os.length := by omega
          have T1 : decide ((os.length : Int) < (os.length : Int)) = false := by simp
          go_wp2_with fail
          go_ret2
          exact ⟨by unfold depV okC; rw [HCC.out, if_pos rfl, if_pos rfl, ← HVS.out]; rfl, HB9.out.trans (HB2.out.mono HB9.out.size)⟩
end Go.Proofs.YtngaelifkhelbaaDoor
