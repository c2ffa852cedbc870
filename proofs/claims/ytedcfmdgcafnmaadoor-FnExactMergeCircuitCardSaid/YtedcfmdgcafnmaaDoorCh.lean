/-
  Which gates are on: of the program, of the model.
-/
import Derived.Test.YtedcfmdgcafnmaaDoorAt
import Derived.Test.YtedcfmdgcafnmaaDoorCf
namespace Go.Proofs.YtedcfmdgcafnmaaDoor
set_option linter.unusedVariables false
set_option linter.unusedSimpArgs false
open Go.ChangeShapes Go.WideShapes Go.ChangeAt Go.RowKit Go.Deep

theorem bdrewc {B : Nat} {a b : World} {p : Addr} {v : Value} (h : Below B a (b.setCell p v)) : Below B a (b.drew.setCell p v) := ⟨h.os, h.tape, h.output, h.size, h.block⟩
theorem odrewc {b : World} {p : Addr} {v : Value} {B s n : Nat} {e : TypeId} {u : Value} {cs : List Value} (h : (b.setCell p v).ownsRow B e s u n cs) : (b.drew.setCell p v).ownsRow B e s u n cs := h
theorem infoBool : (Tryd.prog.info? 4).map (fun i => (i.zero, i.size, i.bytes)) = some (some (.bool false), 1, 1) := by kernel_rfl

set_option maxRecDepth 100000 in
set_option maxHeartbeats 4000000 in
theorem implValues_any (n : Int) (hn : 0 ≤ n ∧ n ≤ 16) (G : Value) (gs : List G3) (hl : gs.length ≤ 600) (hv : ∀ k : Nat, k < gs.length → gateB n k (gs.getD k gz) = true) (bits : Int) (hb : 0 ≤ bits ∧ bits < 65536) (w : World) (hg : GL w G gs) :
    Calls Tryd.prog 138 #[G, .int .u16 bits] w fun e w' => ∃ u, e = .returned u ∧ Below w.heap.size w w' ∧ w'.ownsRow w.heap.size 4 1 u gs.length (bols (onL bits gs)) := by
  have H := Lib.hid hg
  obtain ⟨A, c, rfl⟩ := hg.form
  have HV := Lib.hid hv
  clear hg hv
  obtain ⟨i0, hi, hz0, hz1, hz2⟩ := info_parts infoBool
  go_enter Tryd.func138, Tryd.ntmps138
  go_wp2_with (at_make; refine wpList_make_full _ rfl _ _ 204 rfl w.heap.size 4 i0 (.bool false) 1 Tryd.underlying204 hi hz0 hz1 _ _ _ _ gs.length rfl rfl rfl rfl (by rw [hz2]; omega) (by unfold maxLen; omega) (Nat.le_refl _) ?_)
  intro w1 hown hgrow
  have hb1 : Below w.heap.size w w1 := (Below.refl _ w).grown hgrow (Nat.le_refl _) (fun k hk => by cases hk)
  obtain ⟨g, hgs⟩ : ∃ g, g = w.heap.size := ⟨_, rfl⟩
  rw [← hgs] at hown hb1 ⊢
  have hown1 : w1.ownsRow g 4 1 (.slice (some ⟨g, 0, none⟩) gs.length gs.length) gs.length (bols (rowb (val1 bits) false gs 0)) := by
    have e : (madeCells #[Value.bool false] gs.length).toList = bols (rowb (val1 bits) false gs 0) := by
      rw [toList_madeCells_one, rowb_zero]; simp
    rw [← e]; simpa using hown
  clear hown hgrow
  have HGS := Lib.hid hgs; clear hgs
  have HB1 := Lib.hid hb1; have HO1 := Lib.hid hown1
  clear hb1 hown1
  go_wp2_with fail
  go_loopw [13] (fun y wr => ∃ k : Nat, y = .int .i64 (k : Int) ∧ k ≤ gs.length ∧ Hid (Below g w wr) ∧ Hid (wr.ownsRow g 4 1 (.slice (some ⟨g, 0, none⟩) gs.length gs.length) gs.length (bols (rowb (val1 bits) false gs k)))) (fun y _ => gs.length - (intOf y).toNat)
  case atStart => exact ⟨0, rfl, Nat.zero_le _, HB1, HO1⟩
  case round =>
    obtain ⟨k, rfl, hk, HB, HO⟩ := hrel
    clear HB1 HO1
    by_cases hlt : k < gs.length
    · obtain ⟨b, off, c', e, hlb, hgw, d0, d1, d2⟩ := (H.out.below (by rw [← HGS.out]; exact HB.out)).at k hlt
      cases e
      have hgt := HV.out k hlt
      obtain ⟨x, hx⟩ : ∃ x, x = gs.getD k gz := ⟨_, rfl⟩
      rw [← hx] at d0 d1 d2 hgw hgt
      obtain ⟨kd, a, bb⟩ := x
      simp only at d0 d1 d2
      have T1 : decide ((k : Int) < (gs.length : Int)) = true := by simp; omega
      have i1 : (k : Int) < (gs.length : Int) := by omega
      have hba := (nw1 wr (.cells #[.int .i8 kd, .int .i16 a, .int .i16 bb] 67)).2.1
      have ho2 := owb HO.out hba
      obtain ⟨y0, hy0⟩ : ∃ y, (bols (rowb (val1 bits) false gs k))[k]? = some y := ⟨_, List.getElem?_eq_getElem (by rw [List.length_map, rowb_len _ _ _ _ hk]; exact hlt)⟩
      have q2 : (wr.alloc (.cells #[.int .i8 kd, .int .i16 a, .int .i16 bb] 67)).cell? ⟨g, k, none⟩ = some y0 := (ho2.cellAt k (by omega)).trans hy0
      have q3 : (wr.alloc (.cells #[.int .i8 kd, .int .i16 a, .int .i16 bb] 67)).frozen? ⟨g, k, none⟩ = false := ho2.frozenAt k
      obtain ⟨nv, hnv⟩ : ∃ nv, nv = val1 bits (bl (val1 bits) gs k) (kd, a, bb) := ⟨_, rfl⟩
      have h4 := (ho2.stored k (.bool nv)).1
      have e4 : (bols (rowb (val1 bits) false gs k)).set k (.bool nv) = bols (rowb (val1 bits) false gs (k + 1)) := by rw [← List.map_set, hnv, hx, rowb_set _ _ gs k hlt]
      rw [e4] at h4
      have HSZ := Lib.hid (ownblk HO.out)
      have H4 := Lib.hid h4
      have H5 := Lib.hid ((HB.out.trans (hba.mono (Nat.le_of_lt (ownblk HO.out)))).setCell (p := ⟨g, k, none⟩) (Nat.le_refl _) (.bool nv))
      have HNV := Lib.hid hnv
      have HXX := Lib.hid hx
      have HAT := Lib.hid (fun (z : Nat) (hz : z < k) => show (wr.alloc (.cells #[.int .i8 kd, .int .i16 a, .int .i16 bb] 67)).cell? ⟨g, z, none⟩ = some (.bool ((bl (val1 bits) gs k).getD z false)) from by
        rw [ho2.cellAt z (by omega), List.getElem?_map, rowb_at _ _ gs k z hk hz]; rfl)
      clear h4 ho2 hba hnv hx hy0 HO HB
      rcases kinds_of hgt with ⟨rfl, ha0, ha1, _⟩ | ⟨rfl, ha0, hb0⟩ | ⟨hkd, ha0, ha1, hb0, hb1⟩
      · have T0 : ((0 : Int) == 0) = true := rfl
        clear hgt
        have HE := Lib.hid (show nv = (Go.bits BinOp.and IntKind.u16 (bits / 2 ^ min a.toNat 16) 1 == 1) from by rw [HNV.out]; rfl)
        go_wp2_with fail
        exact ⟨⟨k + 1, by go_num, by omega, by rw [HE.out] at H5; exact H5, by rw [HE.out] at H4; exact H4⟩, by simp [intOf]; omega⟩
      · have T0 : ((1 : Int) == 0) = false := rfl
        have T2 : ((1 : Int) == 1) = true := rfl
        have HE := Lib.hid (show nv = true from by rw [HNV.out]; rfl)
        clear hgt
        go_wp2_with fail
        exact ⟨⟨k + 1, by go_num, by omega, by rw [HE.out] at H5; exact H5, by rw [HE.out] at H4; exact H4⟩, by simp [intOf]; omega⟩
      · simp only at ha0 ha1 hb0 hb1
        obtain ⟨an, rfl⟩ : ∃ an : Nat, a = (an : Int) := ⟨a.toNat, by omega⟩
        obtain ⟨bn, rfl⟩ : ∃ bn : Nat, bb = (bn : Int) := ⟨bb.toNat, by omega⟩
        have va := HAT.out an (by omega)
        have vb := HAT.out bn (by omega)
        obtain ⟨p1, hp1⟩ : ∃ p1, p1 = (bl (val1 bits) gs k).getD an false := ⟨_, rfl⟩
        obtain ⟨p2, hp2⟩ : ∃ p2, p2 = (bl (val1 bits) gs k).getD bn false := ⟨_, rfl⟩
        rw [← hp1] at va
        rw [← hp2] at vb
        have ai : (an : Int) < (gs.length : Int) := by omega
        have bi : (bn : Int) < (gs.length : Int) := by omega
        have HP1 := Lib.hid hp1
        have HP2 := Lib.hid hp2
        clear hp1 hp2 hgt
        rcases hkd with hkd | hkd
        · simp only at hkd
          subst hkd
          have T0 : ((2 : Int) == 0) = false := rfl
          have T2 : ((2 : Int) == 1) = false := rfl
          have T3 : ((2 : Int) == 2) = true := rfl
          have HE := Lib.hid (show nv = (p1 != p2) from by rw [HNV.out, HP1.out, HP2.out]; rfl)
          go_upto_region 11 with fail
          clear d0 d1 d2
          have e0 := (nw1 wr (.cells #[.int .i8 2, .int .i16 (an : Int), .int .i16 (bn : Int)] 67)).1
          generalize wr.alloc (.cells #[.int .i8 2, .int .i16 (an : Int), .int .i16 (bn : Int)] 67) = wa at e0 q2 q3 va vb H4 H5 HAT ⊢
          have m1 : BX wa wr.heap.size (.int .i8 2) (.int .i16 (an : Int)) (.int .i16 (bn : Int)) := ⟨_, e0⟩
          have d1 := m1.c1; have d2 := m1.c2
          clear e0 m1
          refine wp_region_still_tail 13 (by kernel_rfl) (by kernel_rfl) ?_
          simp only [List.take_succ_cons, List.take_zero, List.drop_succ_cons, List.drop_zero]
          still_step
          still_step
          still_step
          still_step
          still_step
          still_step
          still_step
          still_step
          still_step
          still_step
          still_step
          still_step
          still_step
          refine wpStill_nil ?_
          change wpList _ _ _ _ _ wa.drew
          have q2' : wa.drew.cell? ⟨g, k, none⟩ = some y0 := q2
          have q3' : wa.drew.frozen? ⟨g, k, none⟩ = false := q3
          go_wp2_with fail
          exact ⟨⟨k + 1, by go_num, by omega, Lib.hid (bdrewc (by rw [HE.out] at H5; exact H5.out)), Lib.hid (odrewc (by rw [HE.out] at H4; exact H4.out))⟩, by simp [intOf]; omega⟩
        · simp only at hkd
          subst hkd
          have T0 : ((3 : Int) == 0) = false := rfl
          have T2 : ((3 : Int) == 1) = false := rfl
          have T3 : ((3 : Int) == 2) = false := rfl
          have T4 : ((3 : Int) == 3) = true := rfl
          have HE := Lib.hid (show nv = (p1 && p2) from by rw [HNV.out, HP1.out, HP2.out]; rfl)
          cases p1
          · go_wp2_with fail
            exact ⟨⟨k + 1, by go_num, by omega, by rw [HE.out] at H5; exact H5, by rw [HE.out] at H4; exact H4⟩, by simp [intOf]; omega⟩
          · go_wp2_with fail
            exact ⟨⟨k + 1, by go_num, by omega, by rw [HE.out] at H5; exact H5, by rw [HE.out] at H4; exact H4⟩, by simp [intOf]; omega⟩
    · obtain rfl : k = gs.length := by omega
      have T1 : decide ((gs.length : Int) < (gs.length : Int)) = false := by simp
      go_wp2_with fail
      go_ret
      have h := HO.out
      rw [rowb_end] at h
      exact ⟨_, rfl, by rw [← HGS.out]; exact HB.out, by rw [← HGS.out]; exact h⟩

theorem and_u16c (a b : Nat) (ha : a < 65536) (hb : b < 65536) : Go.bits .and .u16 (a : Int) (b : Int) = ((a &&& b : Nat) : Int) := by
  have e : ∀ n : Nat, n < 65536 → (BitVec.ofInt 16 (n : Int)).toNat = n := by
    intro n hn
    rw [BitVec.toNat_ofInt]
    have : (n : Int) % ((2 ^ 16 : Nat) : Int) = n := Int.emod_eq_of_lt (by omega) (by omega)
    rw [this]; rfl
  show IntKind.u16.wrap (((BitVec.ofInt 16 (a : Int) &&& BitVec.ofInt 16 (b : Int)).toNat : Nat) : Int) = _
  rw [BitVec.toNat_and, e a ha, e b hb]
  have : a &&& b ≤ a := Nat.and_le_left
  simp only [IntKind.wrap, show IntKind.u16.bits = 16 from rfl, show IntKind.u16.signed = false from rfl]
  simp
  omega
theorem bit_eq (bits a : Int) (hb : 0 ≤ bits ∧ bits < 65536) (ha : 0 ≤ a ∧ a ≤ 16) : (Go.bits BinOp.and IntKind.u16 (bits / 2 ^ min a.toNat 16) 1 == 1) = ((bits / 2 ^ a.toNat).tmod 2 == 1) := by
  rw [Nat.min_eq_left (by omega)]
  obtain ⟨m, rfl⟩ : ∃ m : Nat, bits = (m : Int) := ⟨bits.toNat, by omega⟩
  have e1 : (m : Int) / 2 ^ a.toNat = ((m / 2 ^ a.toNat : Nat) : Int) := by rw [Int.natCast_ediv, Int.natCast_pow]; rfl
  rw [e1]
  have hlt : m / 2 ^ a.toNat < 65536 := Nat.lt_of_le_of_lt (Nat.div_le_self _ _) (by omega)
  generalize m / 2 ^ a.toNat = y at hlt
  rw [show (1 : Int) = ((1 : Nat) : Int) from rfl, and_u16c y 1 hlt (by omega), Nat.and_one_is_mod, Int.tmod_eq_emod_of_nonneg (by omega)]
  rw [Bool.eq_iff_iff, beq_iff_eq, beq_iff_eq]
  omega

theorem one_cellC (w : World) (v : Value) (t : TypeId) (j : Nat) (u : Value) (h : [v][j]? = some u) : (w.alloc (.cells #[v] t)).cell? ((⟨w.heap.size, 0, none⟩ : Addr).add j) = some u := by
  cases j with
  | zero =>
    simp only [List.getElem?_cons_zero, Option.some.injEq] at h
    subst h
    exact cell_of_row _ _ _ _ _ _ (heap_alloc_new w _)
  | succ j => simp at h
theorem own_formc {w : World} {base n s : Nat} {e : TypeId} {v : Value} {xs : List Value} (h : w.ownsRow base e s v n xs) :
    ∃ A c, v = .slice A n c ∧ n ≤ maxLen ∧ (0 < n → ∃ g, A = some ⟨g, 0, none⟩ ∧ base ≤ g ∧ g < w.heap.size) := by
  rcases h.2 with ⟨rfl, rfl⟩ | ⟨g, cap, cur, rfl, h1, hg, h2, h3, _⟩
  · exact ⟨none, 0, rfl, Nat.zero_le _, fun x => by omega⟩
  · exact ⟨some ⟨g, 0, none⟩, cap, rfl, by omega, fun _ => ⟨g, rfl, h1, (Array.getElem?_eq_some_iff.1 hg).1⟩⟩
set_option maxRecDepth 100000 in
set_option maxHeartbeats 4000000 in
theorem specValues_any (n : Int) (hn : 0 ≤ n ∧ n ≤ 16) (gb : Nat) (nv0 G O : Value) (gs : List G3) (hl : gs.length ≤ 600) (hv : ∀ k : Nat, k < gs.length → gateB n k (gs.getD k gz) = true) (bits : Int) (hb : 0 ≤ bits ∧ bits < 65536) (w : World) (hX : BX w gb nv0 G O) (hg : GL w G gs) :
    Calls Tryd.prog 142 #[.pointer (some ⟨gb, 0, none⟩), .int .u16 bits] w fun e w' => ∃ u, e = .returned u ∧ Below w.heap.size w w' ∧ w'.ownsRow w.heap.size 4 1 u gs.length (bols (onL bits gs)) := by
  have H := Lib.hid hg
  have HX := Lib.hid hX
  obtain ⟨A, c, rfl⟩ := hg.form
  have HV := Lib.hid hv
  clear hg hv hX
  obtain ⟨i0, hi, hz0, hz1, hz2⟩ := info_parts infoBool
  go_enter Tryd.func142, Tryd.ntmps142
  go_wp2_with fail
  have m1 : (w.alloc (.cells #[] 4)).ownsRow w.heap.size 4 1 (.slice (some ⟨w.heap.size, 0, none⟩) 0 0) 0 (bols (bl (val1 bits) gs 0)) := World.ownsRow_made _ #[] 0 (by omega) (Nat.zero_le _) rfl
  have m2 : Below w.heap.size w (w.alloc (.cells #[] 4)) := (nw1 w _).2.1
  have HB0 := Lib.hid m2; have HO0 := Lib.hid m1
  clear m1 m2
  generalize w.alloc (.cells #[] 4) = w1 at HB0 HO0 ⊢
  go_loopw [6, 5] (fun y ov wr => ∃ k : Nat, y = .int .i64 (k : Int) ∧ k ≤ gs.length ∧ Hid (wr.ownsRow w.heap.size 4 1 ov k (bols (bl (val1 bits) gs k))) ∧ Hid (Below w.heap.size w wr)) (fun y _ _ => gs.length - (intOf y).toNat)
  case atStart => exact ⟨0, rfl, Nat.zero_le _, HO0, HB0⟩
  case round =>
    obtain ⟨k, rfl, hk, HO, HB⟩ := hrel
    clear HB0 HO0
    have mX := HX.out.below HB.out
    have x1 := mX.c1
    have MX := Lib.hid mX
    clear mX
    by_cases hlt : k < gs.length
    · obtain ⟨b, off, c', e, hlb, hgw, d0, d1, d2⟩ := (H.out.below HB.out).at k hlt
      cases e
      have hgt := HV.out k hlt
      obtain ⟨x, hx⟩ : ∃ x, x = gs.getD k gz := ⟨_, rfl⟩
      rw [← hx] at d0 d1 d2 hgw hgt
      obtain ⟨kd, a, bb⟩ := x
      simp only at d0 d1 d2
      have T1 : decide ((k : Int) < (gs.length : Int)) = true := by simp; omega
      have i1 : (k : Int) < (gs.length : Int) := by omega
      obtain ⟨AO, cO, rfl, _, hAO⟩ := own_formc HO.out
      have HAO := Lib.hid hAO
      clear hAO
      go_upto_region 7 with fail
      obtain ⟨e0, hba, sba⟩ := nw1 wr (.cells #[.int .i8 kd, .int .i16 a, .int .i16 bb] 67)
      generalize wr.alloc (.cells #[.int .i8 kd, .int .i16 a, .int .i16 bb] 67) = wa at e0 hba sba ⊢
      have mg : BX wa wr.heap.size (.int .i8 kd) (.int .i16 a) (.int .i16 bb) := ⟨_, e0⟩
      have g0 := mg.c0; have g1 := mg.c1; have g2 := mg.c2
      have HOA := Lib.hid (owb HO.out hba)
      have HBA := Lib.hid (bch2 HB.out hba HB.out.size)
      obtain ⟨nv, hnv⟩ : ∃ nv, nv = val1 bits (bl (val1 bits) gs k) (kd, a, bb) := ⟨_, rfl⟩
      have HSN := Lib.hid (show bols (bl (val1 bits) gs k) ++ [Value.bool nv] = bols (bl (val1 bits) gs (k + 1)) from by rw [bl_succ _ _ _ hlt, ← hx, ← hnv]; simp)
      have HNV := Lib.hid hnv
      have HAT := Lib.hid (fun (z : Nat) (hz : z < k) (gz' : Nat) (e : AO = some ⟨gz', 0, none⟩) => show wa.cell? ⟨gz', z, none⟩ = some (.bool ((bl (val1 bits) gs k).getD z false)) from by
        subst e
        rw [HOA.out.cellAt z (by omega), List.getElem?_map, List.getD, List.getElem?_eq_getElem (by rw [bl_len _ _ _ hk]; exact hz)]; rfl)
      have SBA := Lib.hid sba
      clear e0 mg hnv hx d0 d1 d2 HO HB hba sba
      rcases kinds_of hgt with ⟨h0, ha0, ha1, _⟩ | ⟨h0, ha0, hb0⟩ | ⟨hkd, ha0, ha1, hb0, hb1⟩
      · simp only at h0 ha0 ha1
        subst h0
        have T0 : ((0 : Int) == 0) = true := rfl
        have HE := Lib.hid (show nv = (Go.bits BinOp.and IntKind.u16 (bits / 2 ^ min a.toNat 16) 1 == 1) from by rw [HNV.out]; rfl)
        clear hgt
        have HBE := Lib.hid (bit_eq bits a hb ⟨ha0, by omega⟩)
        go_upto_region 14 with fail
        rw [← HBE.out, ← HE.out]
        go_wp2_with (at_builtin; refine wpList_append_own _ rfl _ _ 204 rfl w.heap.size 4 i0 (.bool false) 1 1 Tryd.underlying204 hi hz0 hz1 hz2 rfl (by decide) _ k _ rfl (HOA.out.alloc _) ⟨wa.heap.size, 0, none⟩ 1 1 [.bool nv] rfl rfl ?b1 ?b2 ?b3 ?b4 ?b5 ?_)
        try case b1 => exact one_cellC _ _ _
        try case b2 => simp [Value.oneCell']
        try case b3 => (unfold maxLen; omega)
        try case b4 => omega
        try case b5 => (have := HBA.out.size; first | omega | (rw [World.size_alloc]; omega))
        intro s' wy hown hgrow _
        rw [HSN.out] at hown
        have HB2 := Lib.hid ((HBA.out.alloc HBA.out.size _).grown hgrow (by rw [World.size_alloc]; have := HBA.out.size; omega) (fun x hx => (HOA.out.lt x hx).1))
        have HO2 := Lib.hid hown
        clear hown hgrow
        go_wp2_with fail
        exact ⟨⟨k + 1, by go_num, by omega, HO2, HB2⟩, by simp [intOf]; omega⟩
      · simp only at h0 ha0 hb0
        subst h0
        have T0 : ((1 : Int) == 0) = false := rfl
        have T2 : ((1 : Int) == 2) = false := rfl
        have T3 : ((1 : Int) == 3) = false := rfl
        have HE := Lib.hid (show true = nv from by rw [HNV.out]; rfl)
        clear hgt
        go_upto_region 14 with fail
        obtain rfl := HE.out
        go_wp2_with (at_builtin; refine wpList_append_own _ rfl _ _ 204 rfl w.heap.size 4 i0 (.bool false) 1 1 Tryd.underlying204 hi hz0 hz1 hz2 rfl (by decide) _ k _ rfl (HOA.out.alloc _) ⟨wa.heap.size, 0, none⟩ 1 1 [.bool true] rfl rfl ?c1 ?c2 ?c3 ?c4 ?c5 ?_)
        try case c1 => exact one_cellC _ _ _
        try case c2 => simp [Value.oneCell']
        try case c3 => (unfold maxLen; omega)
        try case c4 => omega
        try case c5 => (have := HBA.out.size; first | omega | (rw [World.size_alloc]; omega))
        intro s' wy hown hgrow _
        rw [HSN.out] at hown
        have HB2 := Lib.hid ((HBA.out.alloc HBA.out.size _).grown hgrow (by rw [World.size_alloc]; have := HBA.out.size; omega) (fun x hx => (HOA.out.lt x hx).1))
        have HO2 := Lib.hid hown
        clear hown hgrow
        go_wp2_with fail
        exact ⟨⟨k + 1, by go_num, by omega, HO2, HB2⟩, by simp [intOf]; omega⟩
      · simp only at ha0 ha1 hb0 hb1
        obtain ⟨an, rfl⟩ : ∃ an : Nat, a = (an : Int) := ⟨a.toNat, by omega⟩
        obtain ⟨bn, rfl⟩ : ∃ bn : Nat, bb = (bn : Int) := ⟨bb.toNat, by omega⟩
        obtain ⟨go, rfl, _, _⟩ := HAO.out (by omega)
        have va := HAT.out an (by omega) go rfl
        have vb := HAT.out bn (by omega) go rfl
        obtain ⟨p1, hp1⟩ : ∃ p1, p1 = (bl (val1 bits) gs k).getD an false := ⟨_, rfl⟩
        obtain ⟨p2, hp2⟩ : ∃ p2, p2 = (bl (val1 bits) gs k).getD bn false := ⟨_, rfl⟩
        rw [← hp1] at va
        rw [← hp2] at vb
        have ai : (an : Int) < (k : Int) := by omega
        have bi : (bn : Int) < (k : Int) := by omega
        have HP1 := Lib.hid hp1
        have HP2 := Lib.hid hp2
        clear hp1 hp2 hgt HAT
        rcases hkd with hkd | hkd
        · simp only at hkd
          subst hkd
          have T0 : ((2 : Int) == 0) = false := rfl
          have T3 : ((2 : Int) == 2) = true := rfl
          have HE := Lib.hid (show nv = (p1 != p2) from by rw [HNV.out, HP1.out, HP2.out]; rfl)
          go_upto_region 11 with fail
          go_quiet (fail)
          have HOD := Lib.hid (show (wa.drewN nq).ownsRow w.heap.size 4 1 _ k _ from HOA.out)
          have HBD := Lib.hid (bdr HBA.out nq)
          have hpp : (!(p1 == p2)) = nv := by rw [HE.out]; rfl
          rw [hpp]
          clear hpp HOA HBA va vb
          generalize wa.drewN nq = wb at HOD HBD ⊢

          go_wp2_with (at_builtin; refine wpList_append_own _ rfl _ _ 204 rfl w.heap.size 4 i0 (.bool false) 1 1 Tryd.underlying204 hi hz0 hz1 hz2 rfl (by decide) _ k _ rfl (HOD.out.alloc _) ⟨wb.heap.size, 0, none⟩ 1 1 [.bool nv] rfl rfl ?d1 ?d2 ?d3 ?d4 ?d5 ?_)
          try case d1 => exact one_cellC _ _ _
          try case d2 => simp [Value.oneCell']
          try case d3 => (unfold maxLen; omega)
          try case d4 => omega
          try case d5 => (have := HBD.out.size; first | omega | (rw [World.size_alloc]; omega))
          intro s' wy hown hgrow _
          rw [HSN.out] at hown
          have HB2 := Lib.hid ((HBD.out.alloc HBD.out.size _).grown hgrow (by rw [World.size_alloc]; have := HBD.out.size; omega) (fun x hx => (HOD.out.lt x hx).1))
          have HO2 := Lib.hid hown
          clear hown hgrow
          go_wp2_with fail
          exact ⟨⟨k + 1, by go_num, by omega, HO2, HB2⟩, by simp [intOf]; omega⟩
        · simp only at hkd
          subst hkd
          have T0 : ((3 : Int) == 0) = false := rfl
          have T2 : ((3 : Int) == 2) = false := rfl
          have T3 : ((3 : Int) == 3) = true := rfl
          have HE := Lib.hid (show nv = (p1 && p2) from by rw [HNV.out, HP1.out, HP2.out]; rfl)
          cases p1
          · go_upto_region 14 with fail
            obtain rfl : nv = false := HE.out
            go_wp2_with (at_builtin; refine wpList_append_own _ rfl _ _ 204 rfl w.heap.size 4 i0 (.bool false) 1 1 Tryd.underlying204 hi hz0 hz1 hz2 rfl (by decide) _ k _ rfl (HOA.out.alloc _) ⟨wa.heap.size, 0, none⟩ 1 1 [.bool false] rfl rfl ?e1 ?e2 ?e3 ?e4 ?e5 ?_)
            try case e1 => exact one_cellC _ _ _
            try case e2 => simp [Value.oneCell']
            try case e3 => (unfold maxLen; omega)
            try case e4 => omega
            try case e5 => (have := HBA.out.size; first | omega | (rw [World.size_alloc]; omega))
            intro s' wy hown hgrow _
            rw [HSN.out] at hown
            have HB2 := Lib.hid ((HBA.out.alloc HBA.out.size _).grown hgrow (by rw [World.size_alloc]; have := HBA.out.size; omega) (fun x hx => (HOA.out.lt x hx).1))
            have HO2 := Lib.hid hown
            clear hown hgrow
            go_wp2_with fail
            exact ⟨⟨k + 1, by go_num, by omega, HO2, HB2⟩, by simp [intOf]; omega⟩
          · go_upto_region 14 with fail
            obtain rfl : nv = p2 := HE.out
            go_wp2_with (at_builtin; refine wpList_append_own _ rfl _ _ 204 rfl w.heap.size 4 i0 (.bool false) 1 1 Tryd.underlying204 hi hz0 hz1 hz2 rfl (by decide) _ k _ rfl (HOA.out.alloc _) ⟨wa.heap.size, 0, none⟩ 1 1 [.bool nv] rfl rfl ?f1 ?f2 ?f3 ?f4 ?f5 ?_)
            try case f1 => exact one_cellC _ _ _
            try case f2 => simp [Value.oneCell']
            try case f3 => (unfold maxLen; omega)
            try case f4 => omega
            try case f5 => (have := HBA.out.size; first | omega | (rw [World.size_alloc]; omega))
            intro s' wy hown hgrow _
            rw [HSN.out] at hown
            have HB2 := Lib.hid ((HBA.out.alloc HBA.out.size _).grown hgrow (by rw [World.size_alloc]; have := HBA.out.size; omega) (fun x hx => (HOA.out.lt x hx).1))
            have HO2 := Lib.hid hown
            clear hown hgrow
            go_wp2_with fail
            exact ⟨⟨k + 1, by go_num, by omega, HO2, HB2⟩, by simp [intOf]; omega⟩
    · obtain rfl : k = gs.length := by omega
      have T1 : decide ((gs.length : Int) < (gs.length : Int)) = false := by simp
      go_wp2_with fail
      go_ret
      exact ⟨_, rfl, HB.out, HO.out⟩

end Go.Proofs.YtedcfmdgcafnmaaDoor
