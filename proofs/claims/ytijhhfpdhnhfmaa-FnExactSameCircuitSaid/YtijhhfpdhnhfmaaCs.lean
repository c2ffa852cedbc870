/-
  SameCircuit of the program and of the model.
-/
import Derived.Test.YtijhhfpdhnhfmaaCj
namespace Go.Proofs.Ytijhhfpdhnhfmaa
set_option linter.unusedVariables false
set_option linter.unusedSimpArgs false
open Go.ChangeShapes Go.WideShapes Go.ChangeAt Go.RowKit Go.Deep

def gsB (xs ys : List G3) : Bool := decide (xs = ys)
def isB (xs ys : List Int) : Bool := decide (xs = ys)
theorem list_at {α : Type} {d : α} {xs ys : List α} (hl : xs.length = ys.length) (h : ∀ i, i < xs.length → xs.getD i d = ys.getD i d) : xs = ys := by
  apply List.ext_getElem? 
  intro i
  by_cases hi : i < xs.length
  · have := h i hi
    simp only [List.getD, List.getElem?_eq_getElem hi, List.getElem?_eq_getElem (show i < ys.length by omega), Option.getD_some] at this
    rw [List.getElem?_eq_getElem hi, List.getElem?_eq_getElem (by omega), this]
  · rw [List.getElem?_eq_none (by omega), List.getElem?_eq_none (by omega)]
theorem g3_ne {x y : G3} (h : x ≠ y) : x.1 ≠ y.1 ∨ (x.1 = y.1 ∧ x.2.1 ≠ y.2.1) ∨ (x.1 = y.1 ∧ x.2.1 = y.2.1 ∧ x.2.2 ≠ y.2.2) := by
  obtain ⟨a, b, c⟩ := x
  obtain ⟨d, e, f⟩ := y
  simp only [ne_eq, Prod.mk.injEq, not_and] at h ⊢
  by_cases h1 : a = d
  · by_cases h2 : b = e
    · exact .inr (.inr ⟨h1, h2, h h1 h2⟩)
    · exact .inr (.inl ⟨h1, h2⟩)
  · exact .inl h1

set_option maxRecDepth 100000 in
set_option maxHeartbeats 4000000 in
theorem equalG_any (v u : Value) (xs ys : List G3) (w : World) (h : GL w v xs) (h' : GL w u ys) (hn : xs.length ≤ 1048576) :
    Calls Try.prog 24 #[v, u] w fun e w' => e = .returned (.bool (gsB xs ys)) ∧ ∃ m, w' = w.drewN m := by
  have H := Lib.hid h; have H' := Lib.hid h'
  obtain ⟨A, c, rfl⟩ := h.form
  obtain ⟨A', c', rfl⟩ := h'.form
  clear h h'
  by_cases hl : xs.length = ys.length
  rotate_left
  · have T0 : ((xs.length : Int) != (ys.length : Int)) = true := by rw [bne_iff_ne]; omega
    have HF := Lib.hid (show gsB xs ys = false from decide_eq_false (fun e => hl (by rw [e])))
    go_enter Try.func24, Try.ntmps24
    go_wp2_with fail
    go_ret
    exact ⟨by rw [HF.out]; rfl, 0, rfl⟩
  have T0 : ((xs.length : Int) != (ys.length : Int)) = false := by rw [hl]; simp
  have HL := Lib.hid hl
  have hle : ys.length ≤ xs.length := by omega
  have hge : xs.length ≤ ys.length := by omega
  clear hl
  go_enter Try.func24, Try.ntmps24
  go_wp2_with fail
  go_loopw [13] (fun i wr => ∃ k m : Nat, i = .int .i64 k ∧ k ≤ xs.length ∧ Hid (∀ j, j < k → xs.getD j gz = ys.getD j gz) ∧ wr = w.drewN m) (fun i _ => xs.length - (intOf i).toNat)
  case atStart => exact ⟨0, 0, rfl, Nat.zero_le _, Lib.hid (fun j hj => absurd hj (by omega)), rfl⟩
  case round =>
    obtain ⟨k, m, rfl, hk, HA, rfl⟩ := hrel
    by_cases hlt : k < xs.length
    · obtain ⟨b, off, q, e, hlb, hgw, c0, c1, c2⟩ := H.out.at k hlt
      cases e
      obtain ⟨b', off', q', e, hlb', hgw', d0, d1, d2⟩ := H'.out.at k (by omega)
      cases e
      obtain ⟨x, hx⟩ : ∃ x, x = xs.getD k gz := ⟨_, rfl⟩
      obtain ⟨y, hy⟩ : ∃ y, y = ys.getD k gz := ⟨_, rfl⟩
      rw [← hx] at c0 c1 c2
      rw [← hy] at d0 d1 d2
      have R1 : (w.drewN m).rangeAt b (off + k * 3) (gc x) := range3 c0 c1 c2
      have R2 : (w.drewN m).rangeAt b' (off' + k * 3) (gc y) := range3 d0 d1 d2
      have T1 : decide ((k : Int) < (xs.length : Int)) = true := by simp; omega
      have i1 : (k : Int) < (xs.length : Int) := by omega
      have i2 : (k : Int) < (ys.length : Int) := by omega
      have HX := Lib.hid hx; have HY := Lib.hid hy
      clear c0 c1 c2 d0 d1 d2 hx hy hgw hgw'
      go_upto_region 6 with fail
      refine wp_region_still_tail 8 (by kernel_rfl) (by kernel_rfl) ?_
      simp only [List.take_succ_cons, List.take_zero, List.drop_succ_cons, List.drop_zero]
      still_step
      still_step
      still_step
      refine stillc_load rfl 44 _ rfl b _ rfl [.int .i8 x.1, .int .i16 x.2.1, .int .i16 x.2.2] _ R1 Try.underlying44 rfl (by kernel_rfl) ?_
      still_step
      still_step
      still_step
      refine stillc_load rfl 44 _ rfl b' _ rfl [.int .i8 y.1, .int .i16 y.2.1, .int .i16 y.2.2] _ R2 Try.underlying44 rfl (by kernel_rfl) ?_
      refine wpStill_nil ?_
      change wpList _ _ _ _ _ (w.drewN (m + 1))
      by_cases hxy : x = y
      · have HA2 := Lib.hid (fun j (hj : j < k + 1) => show xs.getD j gz = ys.getD j gz from by
          by_cases e : j = k
          · rw [e, ← HX.out, ← HY.out]; exact hxy
          · exact HA.out j (by omega))
        subst hxy
        go_wp2_with fail
        exact ⟨⟨k + 1, m + 1, by go_num, by omega, HA2, rfl⟩, by simp [intOf]; omega⟩
      · have HF := Lib.hid (show gsB xs ys = false from decide_eq_false (fun e => hxy (by rw [HX.out, HY.out, e])))
        rcases g3_ne hxy with h1 | ⟨h1, h2⟩ | ⟨h1, h2, h3⟩
        · have F1 : (x.1 == y.1) = false := by simpa using h1
          clear hxy
          go_wp2_with fail
          go_ret
          exact ⟨by rw [HF.out]; rfl, m + 1, by simp⟩
        · have F1 : (x.1 == y.1) = true := by simpa using h1
          have F2 : (x.2.1 == y.2.1) = false := by simpa using h2
          clear hxy h1
          go_wp2_with fail
          go_ret
          exact ⟨by rw [HF.out]; rfl, m + 1, by simp⟩
        · have F1 : (x.1 == y.1) = true := by simpa using h1
          have F2 : (x.2.1 == y.2.1) = true := by simpa using h2
          have F3 : (x.2.2 == y.2.2) = false := by simpa using h3
          clear hxy h1 h2
          go_wp2_with fail
          go_ret
          exact ⟨by rw [HF.out]; rfl, m + 1, by simp⟩
    · obtain rfl : k = xs.length := by omega
      have T1 : decide ((xs.length : Int) < (xs.length : Int)) = false := by simp
      have HF := Lib.hid (show gsB xs ys = true from decide_eq_true (list_at HL.out HA.out))
      go_wp2_with fail
      go_ret
      exact ⟨by rw [HF.out]; rfl, m, rfl⟩
set_option maxRecDepth 100000 in
set_option maxHeartbeats 4000000 in
theorem equalI_any (v u : Value) (xs ys : List Int) (w : World) (h : IL w v xs) (h' : IL w u ys) (hn : xs.length ≤ 1048576) :
    Calls Try.prog 25 #[v, u] w fun e w' => e = .returned (.bool (isB xs ys)) ∧ ∃ m, w' = w.drewN m := by
  have H := Lib.hid h; have H' := Lib.hid h'
  obtain ⟨A, c, rfl⟩ := h.form
  obtain ⟨A', c', rfl⟩ := h'.form
  clear h h'
  by_cases hl : xs.length = ys.length
  rotate_left
  · have T0 : ((xs.length : Int) != (ys.length : Int)) = true := by rw [bne_iff_ne]; omega
    have HF := Lib.hid (show isB xs ys = false from decide_eq_false (fun e => hl (by rw [e])))
    go_enter Try.func25, Try.ntmps25
    go_wp2_with fail
    go_ret
    exact ⟨by rw [HF.out]; rfl, 0, rfl⟩
  have T0 : ((xs.length : Int) != (ys.length : Int)) = false := by rw [hl]; simp
  have HL := Lib.hid hl
  have hle : ys.length ≤ xs.length := by omega
  have hge : xs.length ≤ ys.length := by omega
  clear hl
  go_enter Try.func25, Try.ntmps25
  go_wp2_with fail
  go_loopw [13] (fun i wr => ∃ k m : Nat, i = .int .i64 k ∧ k ≤ xs.length ∧ Hid (∀ j, j < k → xs.getD j 0 = ys.getD j 0) ∧ wr = w.drewN m) (fun i _ => xs.length - (intOf i).toNat)
  case atStart => exact ⟨0, 0, rfl, Nat.zero_le _, Lib.hid (fun j hj => absurd hj (by omega)), rfl⟩
  case round =>
    obtain ⟨k, m, rfl, hk, HA, rfl⟩ := hrel
    by_cases hlt : k < xs.length
    · obtain ⟨b, off, q, e, hlb, hgw, c0⟩ := H.out.at k hlt
      cases e
      obtain ⟨b', off', q', e, hlb', hgw', d0⟩ := H'.out.at k (by omega)
      cases e
      obtain ⟨x, hx⟩ : ∃ x, x = xs.getD k 0 := ⟨_, rfl⟩
      obtain ⟨y, hy⟩ : ∃ y, y = ys.getD k 0 := ⟨_, rfl⟩
      rw [← hx] at c0
      rw [← hy] at d0
      have T1 : decide ((k : Int) < (xs.length : Int)) = true := by simp; omega
      have i1 : (k : Int) < (xs.length : Int) := by omega
      have i2 : (k : Int) < (ys.length : Int) := by omega
      have HX := Lib.hid hx; have HY := Lib.hid hy
      clear hx hy hgw hgw'
      by_cases hxy : x = y
      · have HA2 := Lib.hid (fun j (hj : j < k + 1) => show xs.getD j 0 = ys.getD j 0 from by
          by_cases e : j = k
          · rw [e, ← HX.out, ← HY.out]; exact hxy
          · exact HA.out j (by omega))
        subst hxy
        have T2 : (x != x) = false := by simp
        go_wp2_with fail
        go_quiet (fail)
        go_wp2_with fail
        exact ⟨⟨k + 1, m + nq, by go_num, by omega, HA2, rfl⟩, by simp [intOf]; omega⟩
      · have HF := Lib.hid (show isB xs ys = false from decide_eq_false (fun e => hxy (by rw [HX.out, HY.out, e])))
        have T2 : (x != y) = true := bne_iff_ne.2 hxy
        clear hxy
        go_wp2_with fail
        go_quiet (fail)
        go_wp2_with fail
        go_ret
        exact ⟨by rw [HF.out]; rfl, m + nq, by simp⟩
    · obtain rfl : k = xs.length := by omega
      have T1 : decide ((xs.length : Int) < (xs.length : Int)) = false := by simp
      have HF := Lib.hid (show isB xs ys = true from decide_eq_true (list_at HL.out HA.out))
      go_wp2_with fail
      go_ret
      exact ⟨by rw [HF.out]; rfl, m, rfl⟩

def sameB (na : Int) (ga : List G3) (oa : List Int) (nb : Int) (gb : List G3) (ob : List Int) : Bool := decide (na = nb) && (gsB ga gb && isB oa ob)

set_option maxRecDepth 100000 in
set_option maxHeartbeats 4000000 in
theorem impl_SameCircuit (v : Value) (na : Int) (ga : List G3) (oa : List Int) (u : Value) (nb : Int) (gb : List G3) (ob : List Int) (hla : ga.length + oa.length ≤ 1048576) (w : World) (h : CI w v na ga oa) (h' : CI w u nb gb ob) :
    Calls Try.prog 11 #[v, u] w fun e w' => e = .returned (.bool (sameB na ga oa nb gb ob)) ∧ Below w.heap.size w w' := by
  obtain ⟨G1, O1, rfl, hn1, hg1, ho1⟩ := h
  have HG1 := Lib.hid hg1; have HO1 := Lib.hid ho1
  obtain ⟨A1, c1, rfl⟩ := hg1.form
  obtain ⟨A2, c2, rfl⟩ := ho1.form
  obtain ⟨G2, O2, rfl, hn2, hg2, ho2⟩ := h'
  have HG2 := Lib.hid hg2; have HO2 := Lib.hid ho2
  obtain ⟨A3, c3, rfl⟩ := hg2.form
  obtain ⟨A4, c4, rfl⟩ := ho2.form
  clear hg1 ho1 hg2 ho2
  by_cases q1 : na = nb
  rotate_left
  · have T1 : (na == nb) = false := by simpa using q1
    have HF := Lib.hid (show sameB na ga oa nb gb ob = false from by unfold sameB; rw [decide_eq_false q1]; rfl)
    go_enter Try.func11, Try.ntmps11
    go_wp2_with fail
    go_ret
    exact ⟨by rw [HF.out]; rfl, (nw2 w _ _).2.2.1⟩
  subst q1
  have T1 : (na == na) = true := by simp
  have HV := Lib.hid (show sameB na ga oa na gb ob = (gsB ga gb && isB oa ob) from by unfold sameB; rw [decide_eq_true rfl]; rfl)
  go_enter Try.func11, Try.ntmps11
  go_wp2_with fail
  obtain ⟨a1, a2, hb1, s1⟩ := nw2 w (.cells #[.int .i8 na, .slice A1 ga.length c1, .slice A2 oa.length c2] 31) (.cells #[.int .i8 na, .slice A3 gb.length c3, .slice A4 ob.length c4] 31)
  generalize World.alloc (World.alloc w _) _ = w1 at a1 a2 hb1 s1 ⊢
  have m1 : BX w1 w.heap.size (.int .i8 na) (.slice A1 ga.length c1) (.slice A2 oa.length c2) := ⟨_, a1⟩
  have m2 : BX w1 (w.heap.size + 1) (.int .i8 na) (.slice A3 gb.length c3) (.slice A4 ob.length c4) := ⟨_, a2⟩
  refine (equalG_any _ _ ga gb w1 (HG1.out.below hb1) (HG2.out.below hb1) (by omega)).mono ?_
  rintro e w2 ⟨rfl, mm, hw⟩
  have hbd : Below w1.heap.size w1 w2 := by rw [hw]; exact bdr (Below.refl _ _) mm
  clear hw
  have k1 := (m1.below hbd).c2; have k2 := (m2.below hbd).c2
  have HB := Lib.hid (bch2 hb1 hbd hb1.size)
  clear hb1 hbd m1 m2 a1 a2 s1
  cases hq : gsB ga gb with
  | false =>
    have HQ := Lib.hid hq
    clear hq
    go_wp2_with fail
    go_ret
    exact ⟨by rw [HV.out, HQ.out]; rfl, HB.out⟩
  | true =>
    have HQ := Lib.hid hq
    clear hq
    go_wp2_with fail
    refine (equalI_any _ _ oa ob w2 (HO1.out.below HB.out) (HO2.out.below HB.out) (by omega)).mono ?_
    rintro e w3 ⟨rfl, mm2, hw⟩
    have HB3 := Lib.hid (show Below w.heap.size w w3 from by rw [hw]; exact bdr HB.out mm2)
    clear hw
    obtain ⟨z, hz⟩ : ∃ z, z = isB oa ob := ⟨_, rfl⟩
    rw [← hz]
    have HZ := Lib.hid hz
    clear hz
    go_wp2_with fail
    go_ret
    exact ⟨by rw [HV.out, HQ.out, ← HZ.out]; rfl, HB3.out⟩
set_option maxRecDepth 100000 in
set_option maxHeartbeats 8000000 in
theorem spec_SameCircuit (v : Value) (na : Int) (ga : List G3) (oa : List Int) (u : Value) (nb : Int) (gb : List G3) (ob : List Int) (hla : ga.length + oa.length ≤ 1048576) (w0 : World) (h : CI w0 v na ga oa) (h' : CI w0 u nb gb ob) :
    Calls Try.prog 10 #[v, u] w0 fun e w' => e = .returned (.bool (sameB na ga oa nb gb ob)) ∧ Below w0.heap.size w0 w' := by
  obtain ⟨G1, O1, rfl, hn1, hg1, ho1⟩ := h
  have HG1 := Lib.hid hg1; have HO1 := Lib.hid ho1
  obtain ⟨A1, c1, rfl⟩ := hg1.form
  obtain ⟨A2, c2, rfl⟩ := ho1.form
  obtain ⟨G2, O2, rfl, hn2, hg2, ho2⟩ := h'
  have HG2 := Lib.hid hg2; have HO2 := Lib.hid ho2
  obtain ⟨A3, c3, rfl⟩ := hg2.form
  obtain ⟨A4, c4, rfl⟩ := ho2.form
  clear hg1 ho1 hg2 ho2
  have hlb1 := HG2.out.long; have hlb2 := HO2.out.long
  go_enter Try.func10, Try.ntmps10
  go_wp2_with fail
  obtain ⟨a1, a2, hb1, s1⟩ := nw2 w0 (.cells #[.int .i8 na, .slice A1 ga.length c1, .slice A2 oa.length c2] 31) (.cells #[.int .i8 nb, .slice A3 gb.length c3, .slice A4 ob.length c4] 31)
  generalize World.alloc (World.alloc w0 _) _ = w at a1 a2 hb1 s1 ⊢
  have HX1 : Hid (BX w w0.heap.size (.int .i8 na) (.slice A1 ga.length c1) (.slice A2 oa.length c2)) := Lib.hid ⟨_, a1⟩
  have HX2 : Hid (BX w (w0.heap.size + 1) (.int .i8 nb) (.slice A3 gb.length c3) (.slice A4 ob.length c4)) := Lib.hid ⟨_, a2⟩
  have HB := Lib.hid hb1
  clear a1 a2 hb1 s1
  suffices hs : Calls Try.prog 23 #[.pointer (some ⟨w0.heap.size, 0, none⟩), .pointer (some ⟨w0.heap.size + 1, 0, none⟩)] w fun e w' => e = .returned (.bool (sameB na ga oa nb gb ob)) ∧ ∃ m, w' = w.drewN m by
    refine hs.mono ?_
    rintro e w2 ⟨rfl, m, hw⟩
    have HB2 := Lib.hid (show Below w0.heap.size w0 w2 from by rw [hw]; exact bdr HB.out m)
    clear hw hs
    go_wp2_with fail
    go_ret
    exact ⟨rfl, HB2.out⟩
  have k10 := HX1.out.c0; have k11 := HX1.out.c1; have k12 := HX1.out.c2
  have k20 := HX2.out.c0; have k21 := HX2.out.c1; have k22 := HX2.out.c2
  have HGa := Lib.hid (HG1.out.below HB.out); have HGb := Lib.hid (HG2.out.below HB.out)
  have HOa := Lib.hid (HO1.out.below HB.out); have HOb := Lib.hid (HO2.out.below HB.out)
  clear HG1 HG2 HO1 HO2
  by_cases q1 : na = nb
  rotate_left
  · have T1 : (na != nb) = true := bne_iff_ne.2 q1
    have HF := Lib.hid (show sameB na ga oa nb gb ob = false from by unfold sameB; rw [decide_eq_false q1]; rfl)
    clear q1
    go_enter Try.func23, Try.ntmps23
    go_wp2_with fail
    go_quiet (fail)
    go_wp2_with fail
    go_ret
    exact ⟨by rw [HF.out]; rfl, nq, rfl⟩
  have T1 : (na != nb) = false := by rw [q1]; simp
  by_cases q2 : ga.length = gb.length
  rotate_left
  · have T2 : ((ga.length : Int) != (gb.length : Int)) = true := by rw [bne_iff_ne]; omega
    have HF := Lib.hid (show sameB na ga oa nb gb ob = false from by unfold sameB; rw [show gsB ga gb = false from decide_eq_false (fun e => q2 (by rw [e]))]; simp)
    clear q2 q1
    go_enter Try.func23, Try.ntmps23
    go_wp2_with fail
    go_quiet (fail)
    go_wp2_with fail
    go_ret
    exact ⟨by rw [HF.out]; rfl, nq, rfl⟩
  have T2 : ((ga.length : Int) != (gb.length : Int)) = false := by rw [q2]; simp
  by_cases q3 : oa.length = ob.length
  rotate_left
  · have T3 : ((oa.length : Int) != (ob.length : Int)) = true := by rw [bne_iff_ne]; omega
    have HF := Lib.hid (show sameB na ga oa nb gb ob = false from by unfold sameB; rw [show isB oa ob = false from decide_eq_false (fun e => q3 (by rw [e]))]; simp)
    clear q3 q2 q1
    go_enter Try.func23, Try.ntmps23
    go_wp2_with fail
    go_quiet (fail)
    go_wp2_with fail
    go_ret
    exact ⟨by rw [HF.out]; rfl, nq, rfl⟩
  have T3 : ((oa.length : Int) != (ob.length : Int)) = false := by rw [q3]; simp
  have HV := Lib.hid (show sameB na ga oa nb gb ob = (gsB ga gb && isB oa ob) from by unfold sameB; rw [decide_eq_true q1]; rfl)
  have HL2 := Lib.hid q2; have HL3 := Lib.hid q3
  have hg1 : ga.length ≤ gb.length := by omega
  have hg2 : gb.length ≤ ga.length := by omega
  have ho1 : oa.length ≤ ob.length := by omega
  clear q1 q2 q3
  go_enter Try.func23, Try.ntmps23
  go_wp2_with fail
  go_quiet (fail)
  go_wp2_with fail
  go_loopw [5] (fun y wr => ∃ k m : Nat, y = .int .i64 (k : Int) ∧ k ≤ ga.length ∧ Hid (∀ j, j < k → ga.getD j gz = gb.getD j gz) ∧ wr = w.drewN m) (fun y _ => ga.length - (intOf y).toNat)
  case atStart => exact ⟨0, nq, rfl, Nat.zero_le _, Lib.hid (fun j hj => absurd hj (by omega)), rfl⟩
  case round =>
    obtain ⟨k, m, rfl, hk, HA, rfl⟩ := hrel
    clear T1 T2 T3
    by_cases hlt : k < ga.length
    · obtain ⟨b, off, q, e, hlb, hgw, c0, c1, c2⟩ := HGa.out.at k hlt
      cases e
      obtain ⟨b', off', q', e, hlb', hgw', d0, d1, d2⟩ := HGb.out.at k (by omega)
      cases e
      obtain ⟨x, hx⟩ : ∃ x, x = ga.getD k gz := ⟨_, rfl⟩
      obtain ⟨y, hy⟩ : ∃ y, y = gb.getD k gz := ⟨_, rfl⟩
      rw [← hx] at c0 c1 c2
      rw [← hy] at d0 d1 d2
      have R1 : (w.drewN m).rangeAt b (off + k * 3) (gc x) := range3 c0 c1 c2
      have R2 : (w.drewN m).rangeAt b' (off' + k * 3) (gc y) := range3 d0 d1 d2
      have T1 : decide ((k : Int) < (ga.length : Int)) = true := by simp; omega
      have i1 : (k : Int) < (ga.length : Int) := by omega
      have i2 : (k : Int) < (gb.length : Int) := by omega
      have HX := Lib.hid hx; have HY := Lib.hid hy
      clear c0 c1 c2 d0 d1 d2 hx hy hgw hgw'
      have e11 : (w.drewN m).cell? ⟨w0.heap.size, 1, none⟩ = some (.slice (some ⟨b, off, none⟩) ga.length c1) := k11
      have e21 : (w.drewN m).cell? ⟨w0.heap.size + 1, 1, none⟩ = some (.slice (some ⟨b', off', none⟩) gb.length c3) := k21
      go_upto_region 6 with fail
      refine wp_region_still_tail 14 (by kernel_rfl) (by kernel_rfl) ?_
      generalize hwd : w.drewN m = wd at e11 e21 R1 R2 ⊢
      simp only [List.take_succ_cons, List.take_zero, List.drop_succ_cons, List.drop_zero]
      iterate 6 still_step
      refine stillc_load rfl 44 _ rfl b _ rfl [.int .i8 x.1, .int .i16 x.2.1, .int .i16 x.2.2] _ R1 Try.underlying44 rfl (by kernel_rfl) ?_
      iterate 6 still_step
      refine stillc_load rfl 44 _ rfl b' _ rfl [.int .i8 y.1, .int .i16 y.2.1, .int .i16 y.2.2] _ R2 Try.underlying44 rfl (by kernel_rfl) ?_
      refine wpStill_nil ?_
      subst hwd
      clear e11 e21
      change wpList _ _ _ _ _ (w.drewN (m + 1))
      by_cases hxy : x = y
      · have HA2 := Lib.hid (fun j (hj : j < k + 1) => show ga.getD j gz = gb.getD j gz from by
          by_cases e : j = k
          · rw [e, ← HX.out, ← HY.out]; exact hxy
          · exact HA.out j (by omega))
        subst hxy
        go_wp2_with fail
        exact ⟨⟨k + 1, m + 1, by go_num, by omega, HA2, rfl⟩, by simp [intOf]; omega⟩
      · have HF := Lib.hid (show sameB na ga oa nb gb ob = false from by rw [HV.out, show gsB ga gb = false from decide_eq_false (fun e => hxy (by rw [HX.out, HY.out, e]))]; rfl)
        rcases g3_ne hxy with h1 | ⟨h1, h2⟩ | ⟨h1, h2, h3⟩
        · have F1 : (x.1 == y.1) = false := by simpa using h1
          clear hxy
          go_wp2_with fail
          go_ret
          exact ⟨by rw [HF.out]; rfl, m + 1, by simp⟩
        · have F1 : (x.1 == y.1) = true := by simpa using h1
          have F2 : (x.2.1 == y.2.1) = false := by simpa using h2
          clear hxy h1
          go_wp2_with fail
          go_ret
          exact ⟨by rw [HF.out]; rfl, m + 1, by simp⟩
        · have F1 : (x.1 == y.1) = true := by simpa using h1
          have F2 : (x.2.1 == y.2.1) = true := by simpa using h2
          have F3 : (x.2.2 == y.2.2) = false := by simpa using h3
          clear hxy h1 h2
          go_wp2_with fail
          go_ret
          exact ⟨by rw [HF.out]; rfl, m + 1, by simp⟩
    · obtain rfl : k = ga.length := by omega
      have T1 : decide ((ga.length : Int) < (ga.length : Int)) = false := by simp
      have HEQ := Lib.hid (show gsB ga gb = true from decide_eq_true (list_at HL2.out HA.out))
      go_wp2_with fail
      go_loopw [6] (fun y wr => ∃ j m : Nat, y = .int .i64 (j : Int) ∧ j ≤ oa.length ∧ Hid (∀ z, z < j → oa.getD z 0 = ob.getD z 0) ∧ wr = w.drewN m) (fun y _ => oa.length - (intOf y).toNat)
      case atStart => exact ⟨0, m, rfl, Nat.zero_le _, Lib.hid (fun j hj => absurd hj (by omega)), rfl⟩
      case round =>
        obtain ⟨j, m2, rfl, hj, HJ, rfl⟩ := hrel
        by_cases hlj : j < oa.length
        · obtain ⟨b, off, q, e, hlb, hgw, d0⟩ := HOa.out.at j hlj
          cases e
          obtain ⟨b', off', q', e, hlb', hgw', e0⟩ := HOb.out.at j (by omega)
          cases e
          obtain ⟨x, hx⟩ : ∃ x, x = oa.getD j 0 := ⟨_, rfl⟩
          obtain ⟨y, hy⟩ : ∃ y, y = ob.getD j 0 := ⟨_, rfl⟩
          rw [← hx] at d0
          rw [← hy] at e0
          have T4 : decide ((j : Int) < (oa.length : Int)) = true := by simp; omega
          have i1 : (j : Int) < (oa.length : Int) := by omega
          have i2 : (j : Int) < (ob.length : Int) := by omega
          have HX := Lib.hid hx; have HY := Lib.hid hy
          clear hx hy hgw hgw'
          by_cases hxy : x = y
          · have HJ2 := Lib.hid (fun z (hz : z < j + 1) => show oa.getD z 0 = ob.getD z 0 from by
              by_cases e : z = j
              · rw [e, ← HX.out, ← HY.out]; exact hxy
              · exact HJ.out z (by omega))
            subst hxy
            have T5 : (x != x) = false := by simp
            go_wp2_with fail
            go_quiet (fail)
            go_wp2_with fail
            exact ⟨⟨j + 1, m2 + nq, by go_num, by omega, HJ2, rfl⟩, by simp [intOf]; omega⟩
          · have HF := Lib.hid (show sameB na ga oa nb gb ob = false from by rw [HV.out, show isB oa ob = false from decide_eq_false (fun e => hxy (by rw [HX.out, HY.out, e]))]; simp)
            have T5 : (x != y) = true := bne_iff_ne.2 hxy
            clear hxy
            go_wp2_with fail
            go_quiet (fail)
            go_wp2_with fail
            go_ret
            exact ⟨by rw [HF.out]; rfl, m2 + nq, by simp⟩
        · obtain rfl : j = oa.length := by omega
          have T4 : decide ((oa.length : Int) < (oa.length : Int)) = false := by simp
          have HF := Lib.hid (show sameB na ga oa nb gb ob = true from by rw [HV.out, HEQ.out, show isB oa ob = true from decide_eq_true (list_at HL3.out HJ.out)]; rfl)
          go_wp2_with fail
          go_ret
          exact ⟨by rw [HF.out]; rfl, m2, rfl⟩

end Go.Proofs.Ytijhhfpdhnhfmaa
