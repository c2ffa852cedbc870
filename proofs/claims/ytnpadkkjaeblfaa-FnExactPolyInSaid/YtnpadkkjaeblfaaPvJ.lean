/-
  PolyIn: of the model and of the program.
-/
import Derived.Test.YtnpadkkjaeblfaaPvI
namespace Go.Proofs.Ytnpadkkjaeblfaa
set_option linter.unusedVariables false
set_option linter.unusedSimpArgs false
open Go.ChangeShapes Go.WideShapes Go.ChangeAt Go.RowKit Go.Shelf

set_option maxHeartbeats 8000000 in
set_option maxRecDepth 100000 in
theorem impl_PolyIn (v u : Value) (xs ys : List Int) (hn : xs.length ≤ 1048576) (hn2 : ys.length ≤ 1048576) (w : World) (h : NC w v xs) (h' : NC w u ys) :
    Calls Try.prog 55 #[v, u] w fun e w' => ∃ r, e = .returned (.tuple #[r, .int .i64 (inC xs ys)]) ∧ PO w' w.heap.size r (inA xs ys) ∧ Below w.heap.size w w' := by
  have HN := Lib.hid h.ns
  have HN' := Lib.hid h'.ns
  have HC := Lib.hid (check2 v u xs ys hn hn2 w h.ns h'.ns)
  obtain ⟨A, c, rfl, hca⟩ := h.form
  obtain ⟨A', c', rfl, hca'⟩ := h'.form
  have HB1 := Lib.hid ((Below.refl w.heap.size w).alloc (Nat.le_refl _) (.cells #[.slice A xs.length c, .slice A' ys.length c'] 25))
  have HU := Lib.hid h.inU
  have HU' := Lib.hid h'.inU
  clear h h'
  by_cases ho : (okP xs && okP ys) = true
  · have HY := Lib.hid ho
    have hl1 : xs.length ≤ 21 := okP_len (by rw [Bool.and_eq_true] at ho; exact ho.1)
    have hl2 : ys.length ≤ 21 := okP_len (by rw [Bool.and_eq_true] at ho; exact ho.2)
    go_enter Try.func55, Try.ntmps55
    go_wp2_with fail
    refine HC.out.mono ?_
    rintro e w' ⟨rfl, rfl⟩
    rw [okC2_yes ho]
    clear ho
    go_wp2_with fail
    refine (degree_any A xs.length c hn _).mono ?_
    rintro e w' ⟨rfl, hw⟩
    obtain rfl := hw.symm
    go_wp2_with fail
    refine (degree_any A' ys.length c' hn2 _).mono ?_
    rintro e w' ⟨rfl, hw⟩
    obtain rfl := hw.symm
    obtain ⟨d1, hd1⟩ : ∃ d1, d1 = (xs.length : Int) - 1 := ⟨_, rfl⟩
    obtain ⟨d2, hd2⟩ : ∃ d2, d2 = (ys.length : Int) - 1 := ⟨_, rfl⟩
    have hdd : -20 ≤ d1 * d2 ∧ d1 * d2 ≤ 400 := prod_b d1 d2 (by omega) (by omega) (by omega) (by omega)
    have hcd : (0 < xs.length ∧ 0 < ys.length ∧ 20 < ((xs.length : Int) - 1) * ((ys.length : Int) - 1)) ↔ 20 < d1 * d2 := by
      rw [← hd1, ← hd2]
      refine ⟨fun h => h.2.2, fun h => ⟨?_, ?_, h⟩⟩
      · rcases Nat.eq_zero_or_pos xs.length with e | e
        · have : d1 = -1 := by omega
          rw [this] at h
          omega
        · exact e
      · rcases Nat.eq_zero_or_pos ys.length with e | e
        · have : d2 = -1 := by omega
          rw [this] at h
          omega
        · exact e
    have HCD := Lib.hid hcd
    rw [← hd1, ← hd2]
    have HD1 := Lib.hid hd1
    have HD2 := Lib.hid hd2
    have d1b : -1 ≤ d1 ∧ d1 ≤ 20 := by omega
    have d2b : -1 ≤ d2 ∧ d2 ≤ 20 := by omega
    obtain ⟨m, hm⟩ : ∃ m, m = d1 * d2 := ⟨_, rfl⟩
    have hwm : IntKind.wrap .i64 (d1 * d2) = m := by rw [hm]; exact wrap64i _ (by omega) (by omega)
    rw [← hm] at HCD hdd
    clear hcd hd1 hd2 hm
    by_cases hle : 20 < m
    · have E := Lib.hid (in_long HY.out (HCD.out.2 hle))
      have T1 : decide ((20 : Int) < m) = true := by simpa using hle
      clear hle
      go_wp2_with fail
      go_ret2
      exact ⟨_, by rw [E.out.1]; rfl, by rw [E.out.2]; exact PO.nil0 _ _, HB1.out⟩
    · have E := Lib.hid (in_yes HY.out (fun h => hle (HCD.out.1 h)))
      have T1 : decide ((20 : Int) < m) = false := by simpa using hle
      clear hle
      go_wp2_with fail
      refine (in_any _ _ xs ys hl1 hl2 _ (HN.out.below HB1.out) (HN'.out.below HB1.out)).mono ?_
      rintro e wn ⟨r, rfl, hp, hb⟩
      have HP := Lib.hid (hp.lower (by rw [World.size_alloc]; omega) : PO wn w.heap.size r (inP xs ys))
      have HB := Lib.hid (bchain HB1.out hb)
      clear hp hb
      go_wp2_with fail
      go_ret2
      exact ⟨_, by rw [E.out.1]; rfl, by rw [E.out.2]; exact HP.out, HB.out⟩
  · have ho' : (okP xs && okP ys) = false := by simpa using ho
    have HO := Lib.hid ho'
    go_enter Try.func55, Try.ntmps55
    go_wp2_with fail
    refine HC.out.mono ?_
    rintro e w' ⟨rfl, rfl⟩
    rw [okC2_no ho']
    clear ho ho'
    go_wp2_with fail
    go_ret2
    exact ⟨_, by rw [inC_no HO.out]; rfl, by rw [inA_no HO.out]; exact PO.nil _ _ _ _ (by first | exact Nat.zero_le _ | simp) (fun e => by first | rfl | cases e), (Below.refl _ _).alloc (Nat.le_refl _) _⟩
set_option maxHeartbeats 8000000 in
set_option maxRecDepth 100000 in
theorem spec_PolyIn (v u : Value) (xs ys : List Int) (hn : xs.length ≤ 1048576) (hn2 : ys.length ≤ 1048576) (w : World) (h : NC w v xs) (h' : NC w u ys) :
    Calls Try.prog 54 #[v, u] w fun e w' => ∃ r, e = .returned (.tuple #[r, .int .i64 (inC xs ys)]) ∧ PO w' w.heap.size r (inA xs ys) ∧ Below w.heap.size w w' := by
  have HN := Lib.hid h.ns
  have HN' := Lib.hid h'.ns
  have HC := Lib.hid (check2 v u xs ys hn hn2 w h.ns h'.ns)
  obtain ⟨A, c, rfl, hca⟩ := h.form
  obtain ⟨A', c', rfl, hca'⟩ := h'.form
  have HB1 := Lib.hid ((Below.refl w.heap.size w).alloc (Nat.le_refl _) (.cells #[.slice A xs.length c, .slice A' ys.length c'] 25))
  have HU := Lib.hid h.inU
  have HU' := Lib.hid h'.inU
  clear h h'
  by_cases ho : (okP xs && okP ys) = true
  · have HY := Lib.hid ho
    have hl1 : xs.length ≤ 21 := okP_len (by rw [Bool.and_eq_true] at ho; exact ho.1)
    have hl2 : ys.length ≤ 21 := okP_len (by rw [Bool.and_eq_true] at ho; exact ho.2)
    go_enter Try.func54, Try.ntmps54
    go_wp2_with fail
    refine (l05Both_any _ _ xs ys hn hn2 _ HN.out HN'.out).mono ?_
    rintro e w' ⟨rfl, hw⟩
    obtain rfl := hw.symm
    rw [okC2_yes ho]
    clear ho
    obtain ⟨d1, hd1⟩ : ∃ d1, d1 = (xs.length : Int) - 1 := ⟨_, rfl⟩
    obtain ⟨d2, hd2⟩ : ∃ d2, d2 = (ys.length : Int) - 1 := ⟨_, rfl⟩
    have hdd : -20 ≤ d1 * d2 ∧ d1 * d2 ≤ 400 := prod_b d1 d2 (by omega) (by omega) (by omega) (by omega)
    obtain ⟨m, hm⟩ : ∃ m, m = d1 * d2 := ⟨_, rfl⟩
    have hwm : IntKind.wrap .i64 (((xs.length : Int) - 1) * ((ys.length : Int) - 1)) = m := by rw [← hd1, ← hd2, hm]; exact wrap64i _ (by omega) (by omega)
    have hmd : m = ((xs.length : Int) - 1) * ((ys.length : Int) - 1) := by rw [hm, hd1, hd2]
    have HMD := Lib.hid hmd
    clear hmd hm hdd hd1 hd2 d1 d2
    by_cases h1 : 0 < xs.length
    · have t1 : decide ((0 : Int) < (xs.length : Int)) = true := by simp; omega
      by_cases h2 : 0 < ys.length
      · have t2 : decide ((0 : Int) < (ys.length : Int)) = true := by simp; omega
        by_cases hle : 20 < m
        · have E := Lib.hid (in_long HY.out ⟨h1, h2, by rw [← HMD.out]; exact hle⟩)
          have T0 : decide ((20 : Int) < m) = true := by simpa using hle
          clear hle
          go_wp2_with fail
          go_ret2
          exact ⟨_, by rw [E.out.1]; rfl, by rw [E.out.2]; exact PO.nil _ _ _ _ (by first | exact Nat.zero_le _ | simp) (fun e => by first | rfl | cases e), (Below.refl _ _).alloc (Nat.le_refl _) _⟩
        · have E := Lib.hid (in_yes HY.out (fun h => hle (by rw [HMD.out]; exact h.2.2)))
          have T0 : decide ((20 : Int) < m) = false := by simpa using hle
          clear hle
          obtain ⟨B, hB⟩ : ∃ B, B = w.heap.size := ⟨_, rfl⟩
          have HBB0 : Hid (Below B w (w.alloc (.cells #[] 41))) := Lib.hid (by rw [hB]; exact (Below.refl _ _).alloc (Nat.le_refl _) _)
          have HO0 : Hid (PO (w.alloc (.cells #[] 41)) B (.slice (some ⟨w.heap.size, 0, none⟩) 0 0) (inL ys (backK xs 0))) := Lib.hid (PO.nil _ _ _ _ (Nat.zero_le _) (fun e => rfl))
          have HS0 : Hid (B ≤ (w.alloc (.cells #[] 41)).heap.size) := Lib.hid (by rw [hB, World.size_alloc]; omega)
          have HBE := Lib.hid hB
          clear hB
          go_wp2_with fail
          go_loopw [8, 7] (fun y o wr => ∃ k : Nat, y = .int .i64 ((xs.length : Int) - 1 - (k : Int)) ∧ k ≤ xs.length ∧ Hid (PO wr B o (inL ys (backK xs k))) ∧ Hid (Below B w wr) ∧ Hid (B ≤ wr.heap.size)) (fun y _ _ => (intOf y + 1).toNat)
          case atStart => exact ⟨0, by first | rfl | simp, Nat.zero_le _, HO0, HBB0, HS0⟩
          case round =>
            clear HO0 HBB0 HS0
            obtain ⟨k, rfl, hk, HO, HBW, HS⟩ := hrel
            by_cases hlt : k < xs.length
            · obtain ⟨i, hi⟩ : ∃ i, i = xs.length - 1 - k := ⟨_, rfl⟩
              have hmi : (xs.length : Int) - 1 - (k : Int) = (i : Int) := by omega
              have hmi2 : ((xs.length - 1 - k : Nat) : Int) = (i : Int) := by omega
              obtain ⟨b, off, rfl, hlb, hcell⟩ := HN.out.spot.2 (by omega)
              have i1 : ((i : Int) + 1) ≤ (c : Int) := by omega
              have hw1 : IntKind.wrap .i64 ((i : Int) + 1) = (i : Int) + 1 := wrap64i _ (by omega) (by omega)
              have i2 : (0 : Int) ≤ (i : Int) + 1 := by omega
              have i3 : ¬ c = i := by omega
              have i4 : ((i : Int) + 1).toNat = i + 1 := by omega
              have i5 : (i : Int) < (xs.length : Int) := by omega
              have T1 : decide (0 ≤ (i : Int)) = true := by simp
              have hr := HU.out.at i
              obtain ⟨z, hz⟩ : ∃ z, z = xs.getD i 0 := ⟨_, rfl⟩
              rw [← hz] at hr
              have hs := inL_snoc ys (backK xs k) ((i : Int), z)
              have hsn : backK xs k ++ [((i : Int), z)] = backK xs (k + 1) := by rw [← backK_snoc, hmi2, ← hi, ← hz]
              rw [hsn, show ((((i : Int), z) : Int × Int).2 % 65536) = z from mod_u hr, ← pPlus_trim1] at hs
              have hlen := inL_len ys (backK xs k)
              rw [backK_len] at hlen
              have hlen2 : k * (ys.length + 1) ≤ 21 * 22 := Nat.mul_le_mul (by omega) (by omega)
              have hin := inL_in HU'.out (backK xs k)
              have hoz : inU [z] := fun y hy => by rcases List.mem_singleton.1 hy with rfl; exact hr
              obtain ⟨L1, hL1⟩ : ∃ L1, L1 = pTimes (inL ys (backK xs k)) ys := ⟨_, rfl⟩
              obtain ⟨T0, hT0⟩ : ∃ T0, T0 = pTrim [z] := ⟨_, rfl⟩
              obtain ⟨L2, hL2⟩ : ∃ L2, L2 = inL ys (backK xs (k + 1)) := ⟨_, rfl⟩
              have hl1 : L1.length ≤ 1048576 := by rw [hL1]; have := pTimes_len (inL ys (backK xs k)) ys; omega
              have hu1 : inU L1 := by rw [hL1]; exact pTimes_in hin HU'.out
              have hut : inU T0 := by rw [hT0]; exact pTrim_in hoz
              have hlt0 : T0.length = trimN [z] 1 := by rw [hT0]; exact pTrim_len [z]
              have hlt1 : T0.length ≤ 1048576 := by rw [hlt0]; have := trimN_le [z] 1; omega
              rw [← hL1, ← hT0, ← hL2] at hs
              obtain ⟨wd, hwd⟩ : ∃ wd, wd = wr.drew := ⟨_, rfl⟩
              have hsd : wd.heap.size = wr.heap.size := by rw [hwd]; rfl
              have hbd : Below B w wd := by rw [hwd]; exact drew_b HBW.out
              obtain ⟨A1, k1, rfl, _, _⟩ := HO.out.form
              have hpd : PO wd B (.slice A1 (inL ys (backK xs k)).length k1) (inL ys (backK xs k)) := by rw [hwd]; exact HO.out.below (drew_b (Below.refl _ _))
              have hcz : wd.cell? ⟨b, off + i, none⟩ = some (.int .u16 z) := by rw [hz]; exact (hbd.cell (p := ⟨b, off + i, none⟩) (by rw [HBE.out]; exact hlb)).trans (hcell i (by omega))
              have hns1 : NS wd (.slice (some ⟨b, off + i, none⟩) 1 (c - i)) [z] := ⟨_, _, rfl, hoz, fun _ => ⟨b, off + i, rfl, by have := HBE.out; have := hbd.size; have := HS.out; omega, fun j hj => by
                have e : j = 0 := by simp at hj; omega
                subst e
                simpa using hcz⟩⟩
              have ht1 := l05Times_any _ _ (inL ys (backK xs k)) ys (by omega) hn2 wd hpd.ns (HN'.out.below (by rw [← HBE.out]; exact hbd))
              rw [← hL1] at ht1
              have ht2 : ∀ u, Below wd.heap.size wd u → Calls Try.prog 91 #[.slice (some ⟨b, off + i, none⟩) 1 (c - i)] u fun e w' => ∃ r, e = .returned r ∧ w'.ownsRow u.heap.size 41 1 r T0.length (u16s T0) ∧ Below u.heap.size u w' := by
                intro u hu
                have := l05Trim_any (some ⟨b, off + i, none⟩) (c - i) [z] (by simp) (by simp; omega) u (hns1.below hu)
                rw [hlt0, hT0]
                exact this
              have HT1 := Lib.hid ht1
              have HT2 := Lib.hid ht2
              have HS1 := Lib.hid hs
              have HL2 := Lib.hid hL2
              have HSD := Lib.hid hsd
              have HBD := Lib.hid hbd
              have hnx : (i : Int) - 1 = (xs.length : Int) - 1 - ((k + 1 : Nat) : Int) := by omega
              have HNX := Lib.hid hnx
              have hci : ((c : Int) - (i : Int)).toNat = c - i := by omega
              rw [hmi]
              clear ht1 ht2 hs hL2 hsd hbd hnx hi hmi hmi2 hcell hz hsn hlen hlen2 hin hoz hL1 hT0 hlt0 hpd hcz hns1 hr HO HBW
              go_wp2_with fail
              rw [hwd] at HT1 HT2 HSD HBD
              clear hwd
              go_region_with (first | (go_at_call 97; refine (HT1.out).mono ?_; rintro e w1 ⟨r1, rfl, ho1, hb1⟩; obtain ⟨A2, k2, rfl, _, _⟩ := own_form ho1; have HO1 := Lib.hid ho1; have HB1' := Lib.hid hb1; clear ho1 hb1) | (go_at_call 91; refine (HT2.out w1 HB1'.out).mono ?_; rintro e w2 ⟨r2, rfl, ho2, hb2⟩; obtain ⟨A3, k3, rfl, _, _⟩ := own_form ho2; have HO2 := Lib.hid ho2; have HB2' := Lib.hid hb2; clear ho2 hb2) | (go_at_call 95; refine (l05Plus_any _ _ L1 T0 hl1 hlt1 w2 (PO.of_own (own_below HO1.out HB2'.out) rfl hu1).ns (PO.of_own HO2.out rfl hut).ns).mono ?_; rintro e w3 ⟨r3, rfl, hp3, hb3⟩; obtain ⟨A4, k4, rfl, _, _⟩ := hp3.form; have HP3 := Lib.hid hp3; have HB3' := Lib.hid hb3; clear hp3 hb3))
              all_goals
                have hb4 : Below wr.drew.heap.size wr.drew w3 := bchain (bchain HB1'.out HB2'.out) HB3'.out
                have hsz4 := hb4.size
                have hsz5 : wr.drew.heap.size ≤ w2.heap.size := (bchain HB1'.out HB2'.out).size
                have hpo4 := HP3.out
                rw [← HS1.out] at hpo4
                have HP4 := Lib.hid (hpo4.lower (show B ≤ w2.heap.size by have := HS.out; have := HSD.out; omega))
                have HB4 := Lib.hid (HBD.out.trans (hb4.mono (by have := HS.out; have := HSD.out; omega)))
                have HS4 : Hid (B ≤ w3.heap.size) := Lib.hid (by have := HS.out; have := HSD.out; omega)
                rw [HS1.out] at HP4
                have HPF : Hid (PO w3 B _ (inL ys (backK xs (k + 1)))) := Lib.hid (by rw [← HL2.out, HS1.out]; exact HP4.out)
                clear hb4 hsz4 hsz5 hpo4 HP4 HP3
                go_wp2_with fail
                exact ⟨⟨k + 1, by rw [← HNX.out], by omega, HPF, HB4, HS4⟩, by first | (simp [intOf]; done) | (simp [intOf]; omega)⟩
            · obtain rfl : k = xs.length := by omega
              have T1 : decide (0 ≤ (xs.length : Int) - 1 - (xs.length : Int)) = false := by simp; omega
              have HPF : Hid (PO wr w.heap.size _ (inP xs ys)) := Lib.hid (by rw [← HBE.out]; exact HO.out)
              have HBF : Hid (Below w.heap.size w wr) := Lib.hid (by rw [← HBE.out]; exact HBW.out)
              clear HO HBW
              go_wp2_with fail
              go_ret2
              exact ⟨_, by rw [E.out.1]; rfl, by rw [E.out.2]; exact HPF.out, by first | exact HBF.out | (rw [HBE.out]; exact HBF.out)⟩
      · have t2 : decide ((0 : Int) < (ys.length : Int)) = false := by rw [decide_eq_false_iff_not]; omega
        have t2' : decide (0 < ys.length) = false := by rw [decide_eq_false_iff_not]; exact h2
        have E := Lib.hid (in_yes HY.out (fun h => h2 h.2.1))
        clear h2
        obtain ⟨B, hB⟩ : ∃ B, B = w.heap.size := ⟨_, rfl⟩
        have HBB0 : Hid (Below B w (w.alloc (.cells #[] 41))) := Lib.hid (by rw [hB]; exact (Below.refl _ _).alloc (Nat.le_refl _) _)
        have HO0 : Hid (PO (w.alloc (.cells #[] 41)) B (.slice (some ⟨w.heap.size, 0, none⟩) 0 0) (inL ys (backK xs 0))) := Lib.hid (PO.nil _ _ _ _ (Nat.zero_le _) (fun e => rfl))
        have HS0 : Hid (B ≤ (w.alloc (.cells #[] 41)).heap.size) := Lib.hid (by rw [hB, World.size_alloc]; omega)
        have HBE := Lib.hid hB
        clear hB
        go_wp2_with fail
        go_loopw [8, 7] (fun y o wr => ∃ k : Nat, y = .int .i64 ((xs.length : Int) - 1 - (k : Int)) ∧ k ≤ xs.length ∧ Hid (PO wr B o (inL ys (backK xs k))) ∧ Hid (Below B w wr) ∧ Hid (B ≤ wr.heap.size)) (fun y _ _ => (intOf y + 1).toNat)
        case atStart => exact ⟨0, by first | rfl | simp, Nat.zero_le _, HO0, HBB0, HS0⟩
        case round =>
          clear HO0 HBB0 HS0
          obtain ⟨k, rfl, hk, HO, HBW, HS⟩ := hrel
          by_cases hlt : k < xs.length
          · obtain ⟨i, hi⟩ : ∃ i, i = xs.length - 1 - k := ⟨_, rfl⟩
            have hmi : (xs.length : Int) - 1 - (k : Int) = (i : Int) := by omega
            have hmi2 : ((xs.length - 1 - k : Nat) : Int) = (i : Int) := by omega
            obtain ⟨b, off, rfl, hlb, hcell⟩ := HN.out.spot.2 (by omega)
            have i1 : ((i : Int) + 1) ≤ (c : Int) := by omega
            have hw1 : IntKind.wrap .i64 ((i : Int) + 1) = (i : Int) + 1 := wrap64i _ (by omega) (by omega)
            have i2 : (0 : Int) ≤ (i : Int) + 1 := by omega
            have i3 : ¬ c = i := by omega
            have i4 : ((i : Int) + 1).toNat = i + 1 := by omega
            have i5 : (i : Int) < (xs.length : Int) := by omega
            have T1 : decide (0 ≤ (i : Int)) = true := by simp
            have hr := HU.out.at i
            obtain ⟨z, hz⟩ : ∃ z, z = xs.getD i 0 := ⟨_, rfl⟩
            rw [← hz] at hr
            have hs := inL_snoc ys (backK xs k) ((i : Int), z)
            have hsn : backK xs k ++ [((i : Int), z)] = backK xs (k + 1) := by rw [← backK_snoc, hmi2, ← hi, ← hz]
            rw [hsn, show ((((i : Int), z) : Int × Int).2 % 65536) = z from mod_u hr, ← pPlus_trim1] at hs
            have hlen := inL_len ys (backK xs k)
            rw [backK_len] at hlen
            have hlen2 : k * (ys.length + 1) ≤ 21 * 22 := Nat.mul_le_mul (by omega) (by omega)
            have hin := inL_in HU'.out (backK xs k)
            have hoz : inU [z] := fun y hy => by rcases List.mem_singleton.1 hy with rfl; exact hr
            obtain ⟨L1, hL1⟩ : ∃ L1, L1 = pTimes (inL ys (backK xs k)) ys := ⟨_, rfl⟩
            obtain ⟨T0, hT0⟩ : ∃ T0, T0 = pTrim [z] := ⟨_, rfl⟩
            obtain ⟨L2, hL2⟩ : ∃ L2, L2 = inL ys (backK xs (k + 1)) := ⟨_, rfl⟩
            have hl1 : L1.length ≤ 1048576 := by rw [hL1]; have := pTimes_len (inL ys (backK xs k)) ys; omega
            have hu1 : inU L1 := by rw [hL1]; exact pTimes_in hin HU'.out
            have hut : inU T0 := by rw [hT0]; exact pTrim_in hoz
            have hlt0 : T0.length = trimN [z] 1 := by rw [hT0]; exact pTrim_len [z]
            have hlt1 : T0.length ≤ 1048576 := by rw [hlt0]; have := trimN_le [z] 1; omega
            rw [← hL1, ← hT0, ← hL2] at hs
            obtain ⟨wd, hwd⟩ : ∃ wd, wd = wr.drew := ⟨_, rfl⟩
            have hsd : wd.heap.size = wr.heap.size := by rw [hwd]; rfl
            have hbd : Below B w wd := by rw [hwd]; exact drew_b HBW.out
            obtain ⟨A1, k1, rfl, _, _⟩ := HO.out.form
            have hpd : PO wd B (.slice A1 (inL ys (backK xs k)).length k1) (inL ys (backK xs k)) := by rw [hwd]; exact HO.out.below (drew_b (Below.refl _ _))
            have hcz : wd.cell? ⟨b, off + i, none⟩ = some (.int .u16 z) := by rw [hz]; exact (hbd.cell (p := ⟨b, off + i, none⟩) (by rw [HBE.out]; exact hlb)).trans (hcell i (by omega))
            have hns1 : NS wd (.slice (some ⟨b, off + i, none⟩) 1 (c - i)) [z] := ⟨_, _, rfl, hoz, fun _ => ⟨b, off + i, rfl, by have := HBE.out; have := hbd.size; have := HS.out; omega, fun j hj => by
              have e : j = 0 := by simp at hj; omega
              subst e
              simpa using hcz⟩⟩
            have ht1 := l05Times_any _ _ (inL ys (backK xs k)) ys (by omega) hn2 wd hpd.ns (HN'.out.below (by rw [← HBE.out]; exact hbd))
            rw [← hL1] at ht1
            have ht2 : ∀ u, Below wd.heap.size wd u → Calls Try.prog 91 #[.slice (some ⟨b, off + i, none⟩) 1 (c - i)] u fun e w' => ∃ r, e = .returned r ∧ w'.ownsRow u.heap.size 41 1 r T0.length (u16s T0) ∧ Below u.heap.size u w' := by
              intro u hu
              have := l05Trim_any (some ⟨b, off + i, none⟩) (c - i) [z] (by simp) (by simp; omega) u (hns1.below hu)
              rw [hlt0, hT0]
              exact this
            have HT1 := Lib.hid ht1
            have HT2 := Lib.hid ht2
            have HS1 := Lib.hid hs
            have HL2 := Lib.hid hL2
            have HSD := Lib.hid hsd
            have HBD := Lib.hid hbd
            have hnx : (i : Int) - 1 = (xs.length : Int) - 1 - ((k + 1 : Nat) : Int) := by omega
            have HNX := Lib.hid hnx
            have hci : ((c : Int) - (i : Int)).toNat = c - i := by omega
            rw [hmi]
            clear ht1 ht2 hs hL2 hsd hbd hnx hi hmi hmi2 hcell hz hsn hlen hlen2 hin hoz hL1 hT0 hlt0 hpd hcz hns1 hr HO HBW
            go_wp2_with fail
            rw [hwd] at HT1 HT2 HSD HBD
            clear hwd
            go_region_with (first | (go_at_call 97; refine (HT1.out).mono ?_; rintro e w1 ⟨r1, rfl, ho1, hb1⟩; obtain ⟨A2, k2, rfl, _, _⟩ := own_form ho1; have HO1 := Lib.hid ho1; have HB1' := Lib.hid hb1; clear ho1 hb1) | (go_at_call 91; refine (HT2.out w1 HB1'.out).mono ?_; rintro e w2 ⟨r2, rfl, ho2, hb2⟩; obtain ⟨A3, k3, rfl, _, _⟩ := own_form ho2; have HO2 := Lib.hid ho2; have HB2' := Lib.hid hb2; clear ho2 hb2) | (go_at_call 95; refine (l05Plus_any _ _ L1 T0 hl1 hlt1 w2 (PO.of_own (own_below HO1.out HB2'.out) rfl hu1).ns (PO.of_own HO2.out rfl hut).ns).mono ?_; rintro e w3 ⟨r3, rfl, hp3, hb3⟩; obtain ⟨A4, k4, rfl, _, _⟩ := hp3.form; have HP3 := Lib.hid hp3; have HB3' := Lib.hid hb3; clear hp3 hb3))
            all_goals
              have hb4 : Below wr.drew.heap.size wr.drew w3 := bchain (bchain HB1'.out HB2'.out) HB3'.out
              have hsz4 := hb4.size
              have hsz5 : wr.drew.heap.size ≤ w2.heap.size := (bchain HB1'.out HB2'.out).size
              have hpo4 := HP3.out
              rw [← HS1.out] at hpo4
              have HP4 := Lib.hid (hpo4.lower (show B ≤ w2.heap.size by have := HS.out; have := HSD.out; omega))
              have HB4 := Lib.hid (HBD.out.trans (hb4.mono (by have := HS.out; have := HSD.out; omega)))
              have HS4 : Hid (B ≤ w3.heap.size) := Lib.hid (by have := HS.out; have := HSD.out; omega)
              rw [HS1.out] at HP4
              have HPF : Hid (PO w3 B _ (inL ys (backK xs (k + 1)))) := Lib.hid (by rw [← HL2.out, HS1.out]; exact HP4.out)
              clear hb4 hsz4 hsz5 hpo4 HP4 HP3
              go_wp2_with fail
              exact ⟨⟨k + 1, by rw [← HNX.out], by omega, HPF, HB4, HS4⟩, by first | (simp [intOf]; done) | (simp [intOf]; omega)⟩
          · obtain rfl : k = xs.length := by omega
            have T1 : decide (0 ≤ (xs.length : Int) - 1 - (xs.length : Int)) = false := by simp; omega
            have HPF : Hid (PO wr w.heap.size _ (inP xs ys)) := Lib.hid (by rw [← HBE.out]; exact HO.out)
            have HBF : Hid (Below w.heap.size w wr) := Lib.hid (by rw [← HBE.out]; exact HBW.out)
            clear HO HBW
            go_wp2_with fail
            go_ret2
            exact ⟨_, by rw [E.out.1]; rfl, by rw [E.out.2]; exact HPF.out, by first | exact HBF.out | (rw [HBE.out]; exact HBF.out)⟩
    · have t1 : decide ((0 : Int) < (xs.length : Int)) = false := by rw [decide_eq_false_iff_not]; omega
      have t1' : decide (0 < xs.length) = false := by rw [decide_eq_false_iff_not]; exact h1
      have E := Lib.hid (in_yes HY.out (fun h => h1 h.1))
      clear h1
      obtain ⟨B, hB⟩ : ∃ B, B = w.heap.size := ⟨_, rfl⟩
      have HBB0 : Hid (Below B w (w.alloc (.cells #[] 41))) := Lib.hid (by rw [hB]; exact (Below.refl _ _).alloc (Nat.le_refl _) _)
      have HO0 : Hid (PO (w.alloc (.cells #[] 41)) B (.slice (some ⟨w.heap.size, 0, none⟩) 0 0) (inL ys (backK xs 0))) := Lib.hid (PO.nil _ _ _ _ (Nat.zero_le _) (fun e => rfl))
      have HS0 : Hid (B ≤ (w.alloc (.cells #[] 41)).heap.size) := Lib.hid (by rw [hB, World.size_alloc]; omega)
      have HBE := Lib.hid hB
      clear hB
      go_wp2_with fail
      go_loopw [8, 7] (fun y o wr => ∃ k : Nat, y = .int .i64 ((xs.length : Int) - 1 - (k : Int)) ∧ k ≤ xs.length ∧ Hid (PO wr B o (inL ys (backK xs k))) ∧ Hid (Below B w wr) ∧ Hid (B ≤ wr.heap.size)) (fun y _ _ => (intOf y + 1).toNat)
      case atStart => exact ⟨0, by first | rfl | simp, Nat.zero_le _, HO0, HBB0, HS0⟩
      case round =>
        clear HO0 HBB0 HS0
        obtain ⟨k, rfl, hk, HO, HBW, HS⟩ := hrel
        by_cases hlt : k < xs.length
        · obtain ⟨i, hi⟩ : ∃ i, i = xs.length - 1 - k := ⟨_, rfl⟩
          have hmi : (xs.length : Int) - 1 - (k : Int) = (i : Int) := by omega
          have hmi2 : ((xs.length - 1 - k : Nat) : Int) = (i : Int) := by omega
          obtain ⟨b, off, rfl, hlb, hcell⟩ := HN.out.spot.2 (by omega)
          have i1 : ((i : Int) + 1) ≤ (c : Int) := by omega
          have hw1 : IntKind.wrap .i64 ((i : Int) + 1) = (i : Int) + 1 := wrap64i _ (by omega) (by omega)
          have i2 : (0 : Int) ≤ (i : Int) + 1 := by omega
          have i3 : ¬ c = i := by omega
          have i4 : ((i : Int) + 1).toNat = i + 1 := by omega
          have i5 : (i : Int) < (xs.length : Int) := by omega
          have T1 : decide (0 ≤ (i : Int)) = true := by simp
          have hr := HU.out.at i
          obtain ⟨z, hz⟩ : ∃ z, z = xs.getD i 0 := ⟨_, rfl⟩
          rw [← hz] at hr
          have hs := inL_snoc ys (backK xs k) ((i : Int), z)
          have hsn : backK xs k ++ [((i : Int), z)] = backK xs (k + 1) := by rw [← backK_snoc, hmi2, ← hi, ← hz]
          rw [hsn, show ((((i : Int), z) : Int × Int).2 % 65536) = z from mod_u hr, ← pPlus_trim1] at hs
          have hlen := inL_len ys (backK xs k)
          rw [backK_len] at hlen
          have hlen2 : k * (ys.length + 1) ≤ 21 * 22 := Nat.mul_le_mul (by omega) (by omega)
          have hin := inL_in HU'.out (backK xs k)
          have hoz : inU [z] := fun y hy => by rcases List.mem_singleton.1 hy with rfl; exact hr
          obtain ⟨L1, hL1⟩ : ∃ L1, L1 = pTimes (inL ys (backK xs k)) ys := ⟨_, rfl⟩
          obtain ⟨T0, hT0⟩ : ∃ T0, T0 = pTrim [z] := ⟨_, rfl⟩
          obtain ⟨L2, hL2⟩ : ∃ L2, L2 = inL ys (backK xs (k + 1)) := ⟨_, rfl⟩
          have hl1 : L1.length ≤ 1048576 := by rw [hL1]; have := pTimes_len (inL ys (backK xs k)) ys; omega
          have hu1 : inU L1 := by rw [hL1]; exact pTimes_in hin HU'.out
          have hut : inU T0 := by rw [hT0]; exact pTrim_in hoz
          have hlt0 : T0.length = trimN [z] 1 := by rw [hT0]; exact pTrim_len [z]
          have hlt1 : T0.length ≤ 1048576 := by rw [hlt0]; have := trimN_le [z] 1; omega
          rw [← hL1, ← hT0, ← hL2] at hs
          obtain ⟨wd, hwd⟩ : ∃ wd, wd = wr.drew := ⟨_, rfl⟩
          have hsd : wd.heap.size = wr.heap.size := by rw [hwd]; rfl
          have hbd : Below B w wd := by rw [hwd]; exact drew_b HBW.out
          obtain ⟨A1, k1, rfl, _, _⟩ := HO.out.form
          have hpd : PO wd B (.slice A1 (inL ys (backK xs k)).length k1) (inL ys (backK xs k)) := by rw [hwd]; exact HO.out.below (drew_b (Below.refl _ _))
          have hcz : wd.cell? ⟨b, off + i, none⟩ = some (.int .u16 z) := by rw [hz]; exact (hbd.cell (p := ⟨b, off + i, none⟩) (by rw [HBE.out]; exact hlb)).trans (hcell i (by omega))
          have hns1 : NS wd (.slice (some ⟨b, off + i, none⟩) 1 (c - i)) [z] := ⟨_, _, rfl, hoz, fun _ => ⟨b, off + i, rfl, by have := HBE.out; have := hbd.size; have := HS.out; omega, fun j hj => by
            have e : j = 0 := by simp at hj; omega
            subst e
            simpa using hcz⟩⟩
          have ht1 := l05Times_any _ _ (inL ys (backK xs k)) ys (by omega) hn2 wd hpd.ns (HN'.out.below (by rw [← HBE.out]; exact hbd))
          rw [← hL1] at ht1
          have ht2 : ∀ u, Below wd.heap.size wd u → Calls Try.prog 91 #[.slice (some ⟨b, off + i, none⟩) 1 (c - i)] u fun e w' => ∃ r, e = .returned r ∧ w'.ownsRow u.heap.size 41 1 r T0.length (u16s T0) ∧ Below u.heap.size u w' := by
            intro u hu
            have := l05Trim_any (some ⟨b, off + i, none⟩) (c - i) [z] (by simp) (by simp; omega) u (hns1.below hu)
            rw [hlt0, hT0]
            exact this
          have HT1 := Lib.hid ht1
          have HT2 := Lib.hid ht2
          have HS1 := Lib.hid hs
          have HL2 := Lib.hid hL2
          have HSD := Lib.hid hsd
          have HBD := Lib.hid hbd
          have hnx : (i : Int) - 1 = (xs.length : Int) - 1 - ((k + 1 : Nat) : Int) := by omega
          have HNX := Lib.hid hnx
          have hci : ((c : Int) - (i : Int)).toNat = c - i := by omega
          rw [hmi]
          clear ht1 ht2 hs hL2 hsd hbd hnx hi hmi hmi2 hcell hz hsn hlen hlen2 hin hoz hL1 hT0 hlt0 hpd hcz hns1 hr HO HBW
          go_wp2_with fail
          rw [hwd] at HT1 HT2 HSD HBD
          clear hwd
          go_region_with (first | (go_at_call 97; refine (HT1.out).mono ?_; rintro e w1 ⟨r1, rfl, ho1, hb1⟩; obtain ⟨A2, k2, rfl, _, _⟩ := own_form ho1; have HO1 := Lib.hid ho1; have HB1' := Lib.hid hb1; clear ho1 hb1) | (go_at_call 91; refine (HT2.out w1 HB1'.out).mono ?_; rintro e w2 ⟨r2, rfl, ho2, hb2⟩; obtain ⟨A3, k3, rfl, _, _⟩ := own_form ho2; have HO2 := Lib.hid ho2; have HB2' := Lib.hid hb2; clear ho2 hb2) | (go_at_call 95; refine (l05Plus_any _ _ L1 T0 hl1 hlt1 w2 (PO.of_own (own_below HO1.out HB2'.out) rfl hu1).ns (PO.of_own HO2.out rfl hut).ns).mono ?_; rintro e w3 ⟨r3, rfl, hp3, hb3⟩; obtain ⟨A4, k4, rfl, _, _⟩ := hp3.form; have HP3 := Lib.hid hp3; have HB3' := Lib.hid hb3; clear hp3 hb3))
          all_goals
            have hb4 : Below wr.drew.heap.size wr.drew w3 := bchain (bchain HB1'.out HB2'.out) HB3'.out
            have hsz4 := hb4.size
            have hsz5 : wr.drew.heap.size ≤ w2.heap.size := (bchain HB1'.out HB2'.out).size
            have hpo4 := HP3.out
            rw [← HS1.out] at hpo4
            have HP4 := Lib.hid (hpo4.lower (show B ≤ w2.heap.size by have := HS.out; have := HSD.out; omega))
            have HB4 := Lib.hid (HBD.out.trans (hb4.mono (by have := HS.out; have := HSD.out; omega)))
            have HS4 : Hid (B ≤ w3.heap.size) := Lib.hid (by have := HS.out; have := HSD.out; omega)
            rw [HS1.out] at HP4
            have HPF : Hid (PO w3 B _ (inL ys (backK xs (k + 1)))) := Lib.hid (by rw [← HL2.out, HS1.out]; exact HP4.out)
            clear hb4 hsz4 hsz5 hpo4 HP4 HP3
            go_wp2_with fail
            exact ⟨⟨k + 1, by rw [← HNX.out], by omega, HPF, HB4, HS4⟩, by first | (simp [intOf]; done) | (simp [intOf]; omega)⟩
        · obtain rfl : k = xs.length := by omega
          have T1 : decide (0 ≤ (xs.length : Int) - 1 - (xs.length : Int)) = false := by simp; omega
          have HPF : Hid (PO wr w.heap.size _ (inP xs ys)) := Lib.hid (by rw [← HBE.out]; exact HO.out)
          have HBF : Hid (Below w.heap.size w wr) := Lib.hid (by rw [← HBE.out]; exact HBW.out)
          clear HO HBW
          go_wp2_with fail
          go_ret2
          exact ⟨_, by rw [E.out.1]; rfl, by rw [E.out.2]; exact HPF.out, by first | exact HBF.out | (rw [HBE.out]; exact HBF.out)⟩
  · have ho' : (okP xs && okP ys) = false := by simpa using ho
    have HO := Lib.hid ho'
    go_enter Try.func54, Try.ntmps54
    go_wp2_with fail
    refine (l05Both_any _ _ xs ys hn hn2 _ HN.out HN'.out).mono ?_
    rintro e w' ⟨rfl, hw⟩
    obtain rfl := hw.symm
    rw [okC2_no ho']
    clear ho ho'
    go_wp2_with fail
    go_ret2
    exact ⟨_, by rw [inC_no HO.out]; rfl, by rw [inA_no HO.out]; exact PO.nil _ _ _ _ (by first | exact Nat.zero_le _ | simp) (fun e => by first | rfl | cases e), (Below.refl _ _).alloc (Nat.le_refl _) _⟩
end Go.Proofs.Ytnpadkkjaeblfaa
